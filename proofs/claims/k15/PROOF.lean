import PyProof.Rows.All
import Wide.All
import OpenK.AllK
import Wide.FinOn
import Lean
import PyProof.EqAt
import PyProof.EqKinds
import PyProof.TupleCall
import PyProof.CompFree
import PyProof.NsDelKeeps
import PySem.Challenge.RW_valleytree_k15_each_refusal_its_own
set_option Elab.async false
set_option linter.all false
set_option maxRecDepth 100000
set_option maxHeartbeats 4000000

namespace L2
open PySem PySem.Spec PyProof.Rows
abbrev Key := Sum Int Str
def keyIs : Key → Value → Bool
  | .inl k, v => Value.isInt k v
  | .inr x, v => Value.isStrOf x v
def keyH (w : World) : Key → Int
  | .inl k => hashInt k
  | .inr x => hashStr w x
theorem keyIs_shape : ∀ {k : Key} {v : Value}, keyIs k v = true → (∃ i t, k = Sum.inl i ∧ v = Value.int i t) ∨ (∃ x t, k = Sum.inr x ∧ v = Value.str x t)
  | .inl i, v, h => by
    obtain ⟨t, e⟩ := Value.isInt_shape (k := i) (v := v) h
    exact .inl ⟨i, t, rfl, e⟩
  | .inr x, v, h => by
    obtain ⟨t, e⟩ := Value.isStrOf_shape (x := x) (v := v) h
    exact .inr ⟨x, t, rfl, e⟩
theorem keyIs_int (i : Int) (t : Tok) : keyIs (.inl i) (.int i t) = true := by simp [keyIs, Value.isInt]
theorem keyIs_str (x : Str) (t : Tok) : keyIs (.inr x) (.str x t) = true := by simp [keyIs, Value.isStrOf]
theorem key_ll (a b : Int) : decide ((Sum.inl a : Key) = Sum.inl b) = (a == b) := by
  by_cases e : a = b
  · subst e; simp
  · have h : ¬ (Sum.inl a : Key) = Sum.inl b := fun q => e (Sum.inl.inj q)
    rw [decide_eq_false h]
    exact (beq_eq_false_iff_ne.mpr e).symm
theorem key_rr (a b : Str) : decide ((Sum.inr a : Key) = Sum.inr b) = decide (a = b) := by
  by_cases e : a = b
  · subst e; simp
  · have h : ¬ (Sum.inr a : Key) = Sum.inr b := fun q => e (Sum.inr.inj q)
    rw [decide_eq_false h, decide_eq_false e]
theorem key_lr (a : Int) (b : Str) : decide ((Sum.inl a : Key) = Sum.inr b) = false := decide_eq_false (fun q => nomatch q)
theorem key_rl (a : Str) (b : Int) : decide ((Sum.inr a : Key) = Sum.inl b) = false := decide_eq_false (fun q => nomatch q)
def mixKind (prog : Program) (w : World) : PySem.KeyKind prog w Key where
  is := keyIs
  hash := keyH w
  inj := fun v a b ha hb => by
    rcases keyIs_shape ha with ⟨i, t, rfl, rfl⟩ | ⟨x, t, rfl, rfl⟩
    · rcases keyIs_shape hb with ⟨j, u, rfl, e⟩ | ⟨y, u, rfl, e⟩
      · injection e with e1 _; rw [e1]
      · exact nomatch e
    · rcases keyIs_shape hb with ⟨j, u, rfl, e⟩ | ⟨y, u, rfl, e⟩
      · exact nomatch e
      · injection e with e1 _; rw [e1]
  byValue := fun k v h => by
    rcases keyIs_shape h with ⟨i, t, rfl, rfl⟩ | ⟨x, t, rfl, rfl⟩ <;> rfl
  pyHash := fun hv h => by
    rcases keyIs_shape hv with ⟨i, t, rfl, rfl⟩ | ⟨x, t, rfl, rfl⟩
    · exact wpAny_pyHash_int h
    · exact wpAny_pyHash_str h
  eqBool := fun hu hv h => by
    rcases keyIs_shape hu with ⟨i, t, rfl, rfl⟩ | ⟨x, t, rfl, rfl⟩
    · rcases keyIs_shape hv with ⟨j, u, rfl, rfl⟩ | ⟨y, u, rfl, rfl⟩
      · rw [key_ll] at h; exact wpAny_eqBool_int h
      · rw [key_lr] at h; exact SeqAt.EqAt.int_str i t y u _ _ _ _ h
    · rcases keyIs_shape hv with ⟨j, u, rfl, rfl⟩ | ⟨y, u, rfl, rfl⟩
      · rw [key_rl] at h; exact SeqAt.EqAt.str_int x t j u _ _ _ _ h
      · rw [key_rr] at h; exact wpAny_eqBool_str h
  «strs» := fun k x t v h => by
    rcases keyIs_shape h with ⟨i, u, rfl, e⟩ | ⟨y, u, rfl, e⟩
    · exact nomatch e
    · injection e with e1 _
      subst e1
      cases v <;> rfl
theorem mixKind_is (prog : Program) (w : World) (k : Key) (v : Value) : (mixKind prog w).is k v = keyIs k v := rfl
theorem mixKind_int (prog : Program) (w : World) (i : Int) (t : Tok) : (mixKind prog w).is (.inl i) (.int i t) = true := keyIs_int i t
theorem mixKind_str (prog : Program) (w : World) (x : Str) (t : Tok) : (mixKind prog w).is (.inr x) (.str x t) = true := keyIs_str x t
end L2
namespace L2
open PySem PySem.Spec PyProof.Rows
inductive V where
  | non | bl (b : Bool) | int (i : Int) | str (x : Str) | byt (b : Array UInt8) | flt (b : UInt64) | ref (a : Addr) | ty (n : String)
  deriving DecidableEq
def RelV : V → Value → Prop
  | .non, u => u = Value.none
  | .bl b, u => u = Value.bool b
  | .int i, u => ∃ t, u = Value.int i t
  | .str x, u => ∃ t, u = Value.str x t
  | .byt b, u => ∃ t, u = Value.bytes b t
  | .flt b, u => ∃ t, u = Value.float b t
  | .ref a, u => u = Value.ref a
  | .ty n, u => u = Value.type n
abbrev Vals : List V → List Value → Prop := Paired RelV
theorem Vals.length {xs : List V} {us : List Value} (r : Vals xs us) : xs.length = us.length := Paired.length r
theorem Vals.get : ∀ {xs : List V} {us : List Value} {i : Nat} {x : V}, Vals xs us → xs[i]? = some x → ∃ u, us[i]? = some u ∧ RelV x u
  | _, _, _, _, .nil, e => by simp at e
  | _, _, 0, _, .cons r _, e => by simp at e; subst e; exact ⟨_, rfl, r⟩
  | _, _, i + 1, x, .cons _ t, e => by
    obtain ⟨u, h1, h2⟩ := Vals.get (i := i) (x := x) t (by simpa using e)
    exact ⟨u, by simpa using h1, h2⟩
theorem Vals.set {x : V} {u : Value} (r : RelV x u) : ∀ {xs : List V} {us : List Value} (i : Nat), Vals xs us → Vals (xs.set i x) (us.set i u)
  | _, _, _, .nil => .nil
  | _, _, 0, .cons _ t => .cons r t
  | _, _, i + 1, .cons q t => .cons q (Vals.set r i t)
theorem Vals.append : ∀ {xs ys : List V} {us ws : List Value}, Vals xs us → Vals ys ws → Vals (xs ++ ys) (us ++ ws)
  | _, _, _, _, .nil, s => s
  | _, _, _, _, .cons r t, s => .cons r (Vals.append t s)
theorem Vals.take : ∀ {xs : List V} {us : List Value} (n : Nat), Vals xs us → Vals (xs.take n) (us.take n)
  | _, _, 0, _ => .nil
  | _, _, _ + 1, .nil => .nil
  | _, _, n + 1, .cons r t => .cons r (Vals.take n t)
theorem Vals.drop : ∀ {xs : List V} {us : List Value} (n : Nat), Vals xs us → Vals (xs.drop n) (us.drop n)
  | _, _, 0, r => r
  | _, _, _ + 1, .nil => .nil
  | _, _, n + 1, .cons _ t => Vals.drop n t
theorem Vals.none_of : ∀ {xs : List V} {us : List Value} {i : Nat}, Vals xs us → xs[i]? = none → us[i]? = none := fun {xs us i} r e => by
  have h1 := r.length
  have h2 : xs.length ≤ i := List.getElem?_eq_none_iff.mp e
  exact List.getElem?_eq_none_iff.mpr (by omega)
def RelO : Option V → Option Value → Prop
  | some v, some u => RelV v u
  | none, none => True
  | _, _ => False
def KV {κ : Type} : List (κ × V) → List (κ × Value) → Prop := Paired fun (p : κ × V) (q : κ × Value) => p.1 = q.1 ∧ RelV p.2 q.2
def kV : Key → V
  | .inl i => .int i
  | .inr x => .str x
inductive HO where
  | lst (xs : List V)
  | tup (xs : List V)
  | dK (kvs : List (Key × V)) | dT (kvs : List (List Key × V))
  | set (S : Int → Bool) (n : Nat)
  | ins (C dx : Addr) (fs : List (Str × V))
  | own (x : Addr)
  | xd (fs : List (Str × V))
  | met (f x : Addr)
  | rng (lo hi : Int)
  | frz (o : Obj) (u : HO)
  | tbl (ps : Array Value)
  | ext (φ : Heap → Prop)
abbrev Hp := Addr → Option HO
def upd (H : Hp) (a : Addr) (o : HO) : Hp := fun b => if b = a then some o else H b
theorem upd_same {H : Hp} {a : Addr} {o : HO} : upd H a o a = some o := by unfold upd; rw [if_pos rfl]
theorem upd_ne {H : Hp} {a b : Addr} {o : HO} (h : b ≠ a) : upd H a o b = H b := by unfold upd; rw [if_neg h]
theorem upd_upd {H : Hp} {a : Addr} {o u : HO} : upd (upd H a o) a u = upd H a u := by
  funext b; unfold upd; split <;> rfl
theorem ne_of {H : Hp} {a b : Addr} {o u : HO} (h : H a = some o) (h' : H b = some u) (d : o ≠ u) : a ≠ b := by
  intro e; subst e; rw [h] at h'; exact d (Option.some.inj h')
theorem ne_of_none {H : Hp} {a b : Addr} {o : HO} (h : H a = some o) (h' : H b = none) : a ≠ b := by
  intro e; subst e; rw [h] at h'; cases h'
section
variable (P : Program) (w : World)
def ObjOk (H : Hp) (h : Heap) (a : Addr) : HO → Prop
  | .lst xs => xs.length ≤ sizeLine ∧ ∃ (its : List Value) (n : Nat), Vals xs its ∧ h.get? a = some { cls := .type "list", data := .seq its.toArray n }
  | .tup xs => xs.length ≤ sizeLine ∧ ∃ its : List Value, Vals xs its ∧ IsTup h a its.toArray
  | .dK kvs => kvs.length ≤ sizeLine ∧ (a == sysModules) = false ∧ ∃ vs, KV kvs vs ∧ h.DictOf (mixKind P w) a vs
  | .dT kvs => kvs.length ≤ sizeLine ∧ (a == sysModules) = false ∧ ∃ xs : List (List Key × Addr × Value),
      Paired (fun (p : List Key × V) (q : List Key × Addr × Value) => p.1 = q.1 ∧ H q.2.1 = some (.tup (p.1.map kV)) ∧ RelV p.2 q.2.2) kvs xs ∧
      ∃ o es ep, h.get? a = some o ∧ o.ExactDict ∧ o.data = .dict es ep ∧ es.toList = xs.map (entryOfKey (tupleKind (mixKind P w))) ∧ (xs.map (·.1)).Nodup
  | .set S n => h.SetOf (intKind P w) a S n
  | .ins C dx fs => H dx = some (.own a) ∧ fs.length ≤ 1000 ∧ dx ≠ a ∧ h.get? a = some (PySem.W.instObj C dx) ∧
      ∃ mA, h.Ns1 dx mA ∧ (∀ f, RelO (fs.lookup f) (mA f)) ∧ PySem.Within mA (fs.map (·.1))
  | .own _ => ∃ o, h.get? a = some o
  | .xd fs => ∃ mA, h.Ns1 a mA ∧ ∀ f, RelO (fs.lookup f) (mA f)
  | .rng lo hi => ∃ t u v, h.get? a = some { cls := .type "range", data := .fields #[.int lo t, .int hi u, .int 1 v] }
  | .frz o u => h.get? a = some o ∧ ObjOk H h a u
  | .tbl ps => h.get? a = some { cls := .none, data := .fields ps }
  | .met f x => h.get? a = some (PySem.W.methodObj (.ref f) (.ref x))
  | .ext φ => φ h ∧ (∃ o, h.get? a = some o) ∧ ∀ h1 h2 : Heap, φ h1 → (∀ o, h1.get? a = some o → h2.get? a = some o) → φ h2
def HOk (H : Hp) (h : Heap) : Prop := ∀ a o, H a = some o → ObjOk P w H h a o
end
section
variable {P : Program} {w : World} {H H' : Hp} {h h' : Heap} {a : Addr} {o : HO}
theorem ObjOk.lt (x : ObjOk P w H h a o) : a < h.objs.size := by
  cases o with
  | lst xs => obtain ⟨_, _, _, _, e⟩ := x; exact Heap.lt_size e
  | tup xs => obtain ⟨_, _, _, p⟩ := x; exact p.lt
  | dK kvs => obtain ⟨_, _, _, _, o, _, _, e, _⟩ := x; exact Heap.lt_size e
  | dT kvs => obtain ⟨_, _, _, _, o, _, _, e, _⟩ := x; exact Heap.lt_size e
  | set S n => obtain ⟨o, _, _, _, e, _⟩ := x; exact Heap.lt_size e
  | ins C dx fs => obtain ⟨_, _, _, e, _⟩ := x; exact Heap.lt_size e
  | own y => obtain ⟨_, e⟩ := x; exact Heap.lt_size e
  | xd fs => obtain ⟨_, ⟨_, _, _, e, _⟩, _⟩ := x; exact Heap.lt_size e
  | rng lo hi => obtain ⟨_, _, _, e⟩ := x; exact Heap.lt_size e
  | frz ob u => obtain ⟨e, _⟩ := x; exact Heap.lt_size e
  | tbl ps => exact Heap.lt_size (show h.get? a = some _ from x)
  | met f y => exact Heap.lt_size (show h.get? a = some _ from x)
  | ext φ => obtain ⟨_, ⟨_, e⟩, _⟩ := x; exact Heap.lt_size e
theorem Paired.mapP {α β : Type} {F G : α → β → Prop} : ∀ {l₁ : List α} {l₂ : List β}, Paired F l₁ l₂ → (∀ a b, F a b → G a b) → Paired G l₁ l₂
  | _, _, .nil, _ => .nil
  | _, _, .cons r t, f => .cons (f _ _ r) (Paired.mapP t f)
theorem Paired.imp' {α β : Type} {F G : α → β → Prop} (f : ∀ a b, F a b → G a b) {l₁ : List α} {l₂ : List β} (r : Paired F l₁ l₂) : Paired G l₁ l₂ := Paired.mapP r f
theorem ObjOk.stay (x : ObjOk P w H h a o) (k : ∀ b u, (b = a ∨ H b = some (.own a)) → h.get? b = some u → h'.get? b = some u)
    (ho : ∀ b, H b = some (.own a) → H' b = some (.own a)) (ht : ∀ b xs, H b = some (.tup xs) → H' b = some (.tup xs)) : ObjOk P w H' h' a o := by
  induction o with
  | lst xs => obtain ⟨z, its, n, r, e⟩ := x; exact ⟨z, its, n, r, k _ _ (.inl rfl) e⟩
  | tup xs => obtain ⟨z, its, r, ob, e, c⟩ := x; exact ⟨z, its, r, ob, k _ _ (.inl rfl) e, c⟩
  | dK kvs => obtain ⟨z, y, vs, r, ob, es, ep, e, c⟩ := x; exact ⟨z, y, vs, r, ob, es, ep, k _ _ (.inl rfl) e, c⟩
  | dT kvs =>
    obtain ⟨z, y, xs, r, ob, es, ep, e, c⟩ := x
    exact ⟨z, y, xs, Paired.mapP r fun p q z => ⟨z.1, ht _ _ z.2.1, z.2.2⟩, ob, es, ep, k _ _ (.inl rfl) e, c⟩
  | set S n => obtain ⟨ob, es, ep, t, e, c⟩ := x; exact ⟨ob, es, ep, t, k _ _ (.inl rfl) e, c⟩
  | ins C dx fs =>
    obtain ⟨d, z, ne, e, mA, ⟨od, es, ep, e2, c⟩, r⟩ := x
    exact ⟨ho _ d, z, ne, k _ _ (.inl rfl) e, mA, ⟨od, es, ep, k _ _ (.inr d) e2, c⟩, r⟩
  | own y => obtain ⟨ob, e⟩ := x; exact ⟨ob, k _ _ (.inl rfl) e⟩
  | xd fs => obtain ⟨mA, ⟨od, es, ep, e, c⟩, r⟩ := x; exact ⟨mA, ⟨od, es, ep, k _ _ (.inl rfl) e, c⟩, r⟩
  | rng lo hi => obtain ⟨t, u, v, e⟩ := x; exact ⟨t, u, v, k _ _ (.inl rfl) e⟩
  | frz ob u ih => obtain ⟨e, q⟩ := x; exact ⟨k _ _ (.inl rfl) e, ih q⟩
  | tbl ps =>
    have e : h.get? a = some { cls := .none, data := .fields ps } := x
    show h'.get? a = some { cls := .none, data := .fields ps }
    exact k a _ (.inl rfl) e
  | met f y =>
    have e : h.get? a = some (PySem.W.methodObj (.ref f) (.ref y)) := x
    show h'.get? a = some (PySem.W.methodObj (.ref f) (.ref y))
    exact k a _ (.inl rfl) e
  | ext φ => obtain ⟨p, ⟨o, e⟩, st⟩ := x; exact ⟨st _ _ p fun o q => k _ _ (.inl rfl) q, ⟨o, k _ _ (.inl rfl) e⟩, st⟩
theorem HOk.lt (x : HOk P w H h) (e : H a = some o) : a < h.objs.size := (x a o e).lt
theorem HOk.fresh (x : HOk P w H h) (e : h.objs.size ≤ a) : H a = none := by
  cases q : H a with
  | none => rfl
  | some u => exact absurd (Nat.lt_of_lt_of_le (x.lt q) e) (Nat.lt_irrefl _)
theorem HOk.kept (x : HOk P w H h) (k : ∀ b u, h.get? b = some u → h'.get? b = some u) : HOk P w H h' := fun a o e =>
  (x a o e).stay (fun b u _ q => k b u q) (fun _ q => q) fun _ _ q => q
theorem HOk.laid (x : HOk P w H h) (k : ∀ b u, h.get? b = some u → h'.get? b = some u) (hp : h.objs.size ≤ a) (new : ObjOk P w (upd H a o) h' a o) : HOk P w (upd H a o) h' := fun b u e => by
  have hn := x.fresh hp
  by_cases hb : b = a
  · subst hb; rw [upd_same] at e; cases e; exact new
  · rw [upd_ne hb] at e
    exact (x b u e).stay (fun c v _ q => k c v q) (fun c q => by rw [upd_ne (ne_of_none q hn)]; exact q) fun c xs q => by rw [upd_ne (ne_of_none q hn)]; exact q
end
def Rd (H : Hp) (a : Addr) (u : HO) : Prop := H a = some u ∨ ∃ o, H a = some (.frz o u)
theorem Rd.of {H : Hp} {a : Addr} {u : HO} (h : H a = some u) : Rd H a u := .inl h
theorem Rd.ok {P : Program} {w : World} {H : Hp} {h : Heap} {a : Addr} {u : HO} (r : Rd H a u) (x : HOk P w H h) : ObjOk P w H h a u := by
  rcases r with r | ⟨o, r⟩
  · exact x a u r
  · obtain ⟨_, q⟩ := x a _ r
    exact q
def Mut : Option HO → Prop
  | some (.lst _) => True
  | some (.dK _) => True
  | some (.dT _) => True
  | some (.set _ _) => True
  | some (.ins _ _ _) => True
  | some (.ext _) => True
  | _ => False
section
variable {P : Program} {w : World} {H : Hp} {h h' : Heap} {x e : Addr} {o' : HO}
theorem HOk.write (ok : HOk P w H h) (mu : Mut (H x)) (he : e = x ∨ H e = some (.own x)) (k : ∀ b u, b ≠ e → h.get? b = some u → h'.get? b = some u) (heo : ∃ u, h'.get? e = some u)
    (new : ObjOk P w (upd H x o') h' x o') : HOk P w (upd H x o') h' := fun b u q => by
  have nown : ∀ c y, H c = some (.own y) → c ≠ x := fun c y r z => by subst z; rw [r] at mu; exact mu
  have ntup : ∀ c xs, H c = some (.tup xs) → c ≠ x := fun c xs r z => by subst z; rw [r] at mu; exact mu
  by_cases hb : b = x
  · subst hb; rw [upd_same] at q; cases q; exact new
  · rw [upd_ne hb] at q
    by_cases hbe : b = e
    · have q' : H b = some (.own x) := by
        rcases he with z | z
        · exact absurd (hbe.trans z) hb
        · rw [hbe]; exact z
      rw [q] at q'; cases q'
      obtain ⟨v, hv⟩ := heo
      exact ⟨v, by rw [hbe]; exact hv⟩
    · refine (ok b u q).stay (fun c v hc r => k c v ?_ r) (fun c r => by rw [upd_ne (nown c b r)]; exact r) fun c xs r => by rw [upd_ne (ntup c xs r)]; exact r
      rcases hc with rfl | hc
      · exact hbe
      · rintro rfl
        rcases he with z | z
        · exact nown c b hc z
        · rw [hc] at z; cases z; exact hb rfl
end
structure Un (fs ex : List Addr) (H H' : Hp) (h h' : Heap) : Prop where
  keep : ∀ b o, h.get? b = some o → H b = none → b ∉ fs → b ∉ ex → h'.get? b = some o
  slot : ∀ b o, h.get? b = some o → H b = none → b ∈ fs → b ∉ ex → ∃ sl, h'.get? b = some { o with slots := sl }
  free : ∀ b o, h.get? b = some o → H b = none → b ∉ ex → H' b = none
  there : ∀ b o, h.get? b = some o → b ∉ ex → ∃ o', h'.get? b = some o'
  tups : ∀ b xs, H b = some (.tup xs) → H' b = some (.tup xs)
  frzs : ∀ b o u, H b = some (.frz o u) → H' b = some (.frz o u)
  tbls : ∀ b ps, H b = some (.tbl ps) → ∃ more, H' b = some (.tbl (ps ++ more))
section
variable {fs fs' ex ex' : List Addr} {H H1 H2 : Hp} {h h1 h2 h' : Heap} {a x e : Addr} {o : HO}
theorem Un.any (u : Un fs ex H H1 h h1) {b : Addr} {ob : Obj} (q : h.get? b = some ob) (n : H b = none) (hx : b ∉ ex) : ∃ sl, h1.get? b = some { ob with slots := sl } := by
  by_cases hb : b ∈ fs
  · exact u.slot b ob q n hb hx
  · exact ⟨ob.slots, u.keep b ob q n hb hx⟩
theorem Un.trans (a : Un fs ex H H1 h h1) (b : Un fs ex H1 H2 h1 h2) : Un fs ex H H2 h h2 where
  keep := fun c ob q n hc hx => b.keep c ob (a.keep c ob q n hc hx) (a.free c ob q n hx) hc hx
  slot := fun c ob q n hc hx => by
    obtain ⟨sl, e1⟩ := a.slot c ob q n hc hx
    obtain ⟨sl', e2⟩ := b.slot c _ e1 (a.free c ob q n hx) hc hx
    exact ⟨sl', e2⟩
  free := fun c ob q n hx => by
    obtain ⟨o', e1⟩ := a.there c ob q hx
    exact b.free c o' e1 (a.free c ob q n hx) hx
  there := fun c ob q hx => by
    obtain ⟨o', e1⟩ := a.there c ob q hx
    exact b.there c o' e1 hx
  tups := fun c xs q => b.tups c xs (a.tups c xs q)
  frzs := fun c ob xs q => b.frzs c ob xs (a.frzs c ob xs q)
  tbls := fun c ps q => by
    obtain ⟨m1, e1⟩ := a.tbls c ps q
    obtain ⟨m2, e2⟩ := b.tbls c _ e1
    exact ⟨m1 ++ m2, by rw [e2, Array.append_assoc]⟩
theorem Un.kept (k : ∀ b u, h.get? b = some u → h'.get? b = some u) : Un fs ex H H h h' :=
  ⟨fun b ob q _ _ _ => k b ob q, fun b ob q _ _ _ => ⟨ob.slots, k b ob q⟩, fun _ _ _ n _ => n, fun b ob q _ => ⟨ob, k b ob q⟩, fun _ _ q => q, fun _ _ _ q => q, fun _ ps q => ⟨#[], by rw [q]; simp⟩⟩
theorem Un.refl : Un fs ex H H h h := Un.kept fun _ _ q => q
theorem Un.laid (k : ∀ b u, h.get? b = some u → h'.get? b = some u) (hp : h.objs.size ≤ a) (hn : H a = none) : Un fs ex H (upd H a o) h h' where
  keep := fun b u q _ _ _ => k b u q
  slot := fun b u q _ _ _ => ⟨u.slots, k b u q⟩
  free := fun b u q n _ => by rw [upd_ne (Nat.ne_of_lt (Nat.lt_of_lt_of_le (Heap.lt_size q) hp))]; exact n
  there := fun b u q _ => ⟨u, k b u q⟩
  tups := fun b xs q => by rw [upd_ne (ne_of_none q hn)]; exact q
  frzs := fun b u xs q => by rw [upd_ne (ne_of_none q hn)]; exact q
  tbls := fun b ps q => ⟨#[], by rw [upd_ne (ne_of_none q hn), q]; simp⟩
theorem Un.write (mu : Mut (H x)) (he : e = x ∨ H e = some (.own x)) (k : ∀ b u, b ≠ e → h.get? b = some u → h'.get? b = some u) (heo : ∃ u, h'.get? e = some u) : Un fs ex H (upd H x o) h h' := by
  have hx : ∀ b, H b = none → b ≠ x := fun b n z => by subst z; rw [n] at mu; exact mu
  have hb : ∀ b, H b = none → b ≠ e := fun b n z => by
    subst z
    rcases he with r | r
    · exact hx b n r
    · rw [n] at r; cases r
  have hm : ∀ b u, H b = some u → ¬ Mut (some u) → b ≠ x := fun b u q nm z => by subst z; rw [q] at mu; exact nm mu
  refine ⟨fun b u q n _ _ => k b u (hb b n) q, fun b u q n _ _ => ⟨u.slots, k b u (hb b n) q⟩, fun b u q n _ => by rw [upd_ne (hx b n)]; exact n, fun b u q _ => ?_,
    fun b xs q => by rw [upd_ne (hm b _ q fun z => z)]; exact q, fun b u xs q => by rw [upd_ne (hm b _ q fun z => z)]; exact q, fun b ps q => ⟨#[], by rw [upd_ne (hm b _ q fun z => z), q]; simp⟩⟩
  by_cases hbe : b = e
  · subst hbe; exact heo
  · exact ⟨u, k b u hbe q⟩
theorem Un.mono (u : Un fs ex H H1 h h1) (hs : ∀ b ∈ fs, b ∈ fs') (hx : ∀ b ∈ ex, b ∈ ex') : Un fs' ex' H H1 h h1 :=
  ⟨fun b ob q n hb he => u.keep b ob q n (fun z => hb (hs b z)) fun z => he (hx b z), fun _ _ q n _ he => u.any q n fun z => he (hx _ z), fun b ob q n he => u.free b ob q n fun z => he (hx b z), fun b ob q he => u.there b ob q fun z => he (hx b z), u.tups, u.frzs, u.tbls⟩
end
def trk (h : Heap) (H : Hp) : List Addr := (List.range h.objs.size).filter fun a => (H a).isSome
def hidT (h : Heap) (H : Hp) : Heap := PySem.W.hideAll h (trk h H)
theorem hidT_size (h : Heap) (H : Hp) : (hidT h H).objs.size = h.objs.size := PySem.W.hideAll_size _ _
theorem hidT_get {h : Heap} {H : Hp} {b : Addr} {o : Obj} (e : h.get? b = some o) (n : H b = none) : (hidT h H).get? b = some o :=
  PySem.W.hideAll_get _ e fun hm => by
    have q : (H b).isSome = true := (List.mem_filter.mp hm).2
    rw [n] at q; simp at q
theorem of_hidT {h : Heap} {H : Hp} {b : Addr} {o : Obj} (e : (hidT h H).get? b = some o) : h.get? b = some o ∧ H b = none := by
  have e' : h.get? b = some o := PySem.W.of_hideAll (trk h H) e
  refine ⟨e', ?_⟩
  cases q : H b with
  | none => rfl
  | some x =>
    have hm : b ∈ trk h H := List.mem_filter.mpr ⟨List.mem_range.mpr (Heap.lt_size e'), by simp [q]⟩
    have z : (hidT h H).get? b = none := PySem.W.hideAll_none (trk h H) hm
    rw [z] at e; cases e
def allNews (g h : Heap) (L : Addr) : List (Addr × Obj) := (List.range h.objs.size).filterMap fun a => if a = L ∨ (g.get? a).isSome = true then none else (h.get? a).map fun o => (a, o)
theorem mem_allNews {g h : Heap} {L a : Addr} {o : Obj} (h1 : a ≠ L) (h2 : g.get? a = none) (h3 : h.get? a = some o) : (a, o) ∈ allNews g h L :=
  List.mem_filterMap.mpr ⟨a, List.mem_range.mpr (Heap.lt_size h3), by simp [h1, h2, h3]⟩
theorem of_mem_allNews {g h : Heap} {L : Addr} {p : Addr × Obj} (hp : p ∈ allNews g h L) : p.1 ≠ L ∧ g.get? p.1 = none ∧ h.get? p.1 = some p.2 := by
  obtain ⟨b, _, e⟩ := List.mem_filterMap.mp hp
  split at e
  · cases e
  · rename_i hn
    cases q : h.get? b with
    | none => rw [q] at e; simp at e
    | some u =>
      rw [q] at e
      simp only [Option.map_some, Option.some.injEq] at e
      subst e
      refine ⟨fun z => hn (.inl z), ?_, q⟩
      show g.get? b = none
      cases r : g.get? b with
      | none => rfl
      | some v => exact (hn (.inr (by simp [r]))).elim
def rest (g h : Heap) (L d : Addr) : List (Addr × Obj) := (allNews g h L).filter fun p => decide (p.1 ≠ d)
theorem rest_ne {g h : Heap} {L d : Addr} : ∀ p ∈ rest g h L d, p.1 ≠ d := fun p hp => of_decide_eq_true (List.mem_filter.mp hp).2
theorem mem_rest {g h : Heap} {L d a : Addr} {o : Obj} (h1 : a ≠ L) (h2 : g.get? a = none) (h3 : h.get? a = some o) (h4 : a ≠ d) : (a, o) ∈ rest g h L d :=
  List.mem_filter.mpr ⟨mem_allNews h1 h2 h3, decide_eq_true h4⟩
theorem news_all {g h : Heap} {L : Addr} : News g L h (allNews g h L) := fun p hp => let ⟨a, b, c⟩ := of_mem_allNews hp; ⟨c, a, b⟩
theorem news_at {g h : Heap} {L d : Addr} {o : Obj} (h1 : d ≠ L) (h2 : g.get? d = none) (h3 : h.get? d = some o) : News g L h ((d, o) :: rest g h L d) := fun p hp => by
  rcases List.mem_cons.mp hp with rfl | hp
  · exact ⟨h3, h1, h2⟩
  · exact news_all p (List.mem_filter.mp hp).1
theorem kept_of_news {g h h' : Heap} {L d : Addr} {m : Str → Option Value} (k : ∀ b o, g.get? b = some o → h.get? b = some o) (F : Fr g L h' m) (N : News g L h' (rest g h L d)) :
    ∀ b o, b ≠ L → b ≠ d → h.get? b = some o → h'.get? b = some o := fun b o h1 h2 e => by
  cases q : g.get? b with
  | some u =>
    have := k b u q
    rw [e] at this; cases this
    exact F.keep b _ q
  | none => exact (N (b, o) (mem_rest h1 q e h2)).1
end L2
namespace L2
open PySem PySem.Spec PyProof.Rows
structure Mod (K : PySem.W.Frag) (mg : Str → Option Value) (base : Heap) : Prop where
  kin : K.In base
  glob : base.Ns mainGlobals mg
  blt : ∃ mb, base.Ns builtinsNs mb ∧ ∀ x : Str, x ≠ "__name__" → mb x = bootBuiltins x
  nolimit : base.NoLimit
structure Cx where
  prog : Program
  w : World
  K : PySem.W.Frag
  mg : Str → Option Value
  base : Heap
  A : Around
  N : List Str
  s₀ : Shared
  H₀ : Hp
  env : Env
  outer : List Env
  stack : List Env
  ex : List Addr
  fn : Str → Bool
  calm : Bool
  pn : List (Addr × Obj)
  xe : Value → Shared → Prop
def frs (l : List Env) : List Addr := l.filterMap (·.frame)
abbrev Cx.fs (X : Cx) : List Addr := frs X.outer
def Vis (sc : Scope) (x : Str) : Prop := sc.names.lookup x = some .local ∨ sc.names.lookup x = some .cell ∨ sc.names.lookup x = some .free
def Loc (sc : Scope) (x : Str) : Prop := sc.names.lookup x = some .local ∨ sc.names.lookup x = some .cell
def Look (env : Env) (h : Heap) (m : Str → Option Value) (x : Str) (u : Value) : Prop :=
  (env.kindOf x = some .local ∧ m x = some u) ∨ ((env.kindOf x = some .cell ∨ env.kindOf x = some .free) ∧ ∃ c, env.cells.lookup x = some c ∧ h.IsCell c (some u))
structure Cx.Ok (X : Cx) : Prop where
  mod : Mod X.K X.mg X.base
  kind : X.env.scope.kind = .function
  glob : X.env.globals = mainGlobals
  blt : X.env.builtins = builtinsNs
  above : X.s₀.heap.objs.size ≤ X.env.locals
  inj : ∀ x y c, X.env.cells.lookup x = some c → X.env.cells.lookup y = some c → x = y
  has : ∀ x, (X.env.kindOf x = some .cell ∨ X.env.kindOf x = some .free) → ∃ c, X.env.cells.lookup x = some c
  cab : ∀ x c, X.fn x = true → X.env.cells.lookup x = some c → X.s₀.heap.objs.size ≤ c
  hd : X.calm = true → X.A.handled = none
  frames : X.A.frames = some X.stack
  stk : X.stack = X.outer ∨ (X.stack = X.env :: X.outer ∧ X.env.frame = some X.env.locals)
  exf : ∀ b ∈ X.ex, b ≠ X.env.locals ∧ ∀ x c, X.env.cells.lookup x = some c → c ≠ b
  bs : ∀ b o, X.base.get? b = some o → X.s₀.heap.get? b = some o ∧ X.H₀ b = none
  bsz : X.base.objs.size ≤ X.s₀.heap.objs.size
  noex : ∀ b o, X.base.get? b = some o → b ∉ X.ex
  exfs : ∀ b ∈ X.ex, b ∉ X.fs
  funs : X.s₀.heap.FunFrames X.base X.outer
  frf : ∀ b ∈ X.fs, X.H₀ b = none
structure Inv (X : Cx) (pins : List (Addr × Obj)) (σ : List (Option V)) (H : Hp) (s : Shared) : Prop where
  ok : X.Ok
  os : s.os = X.s₀.os
  bare : AllBare s.gens
  base : Un X.fs X.ex X.H₀ H X.s₀.heap s.heap
  loc : ∃ m, s.heap.Ns X.env.locals m ∧ ∀ (i : Nat) (x : Str) (v : V), X.N[i]? = some x → σ[i]? = some (some v) → Vis X.env.scope x → ∃ u, RelV v u ∧ Look X.env s.heap m x u
  cell : ∀ x c, X.env.cells.lookup x = some c → ∃ v, s.heap.IsCell c v
  free : H X.env.locals = none
  freeC : ∀ x c, X.env.cells.lookup x = some c → H c = none
  pin : ∀ p ∈ X.pn ++ pins, s.heap.get? p.1 = some p.2 ∧ H p.1 = none ∧ p.1 ≠ X.env.locals ∧ p.1 ∉ X.fs ∧ ∀ v, p.2.data ≠ .cell v
  hok : HOk X.prog X.w H s.heap
  len : σ.length = X.N.length
section
variable {X : Cx} {pins : List (Addr × Obj)} {σ : List (Option V)} {H H' : Hp} {s : Shared} {h' : Heap}
theorem Cx.Ok.nofr (ok : X.Ok) {b : Addr} {o : Obj} (e : X.base.get? b = some o) : b ∉ X.fs := fun hb => by
  have := (ok.funs.mem hb).1
  rw [e] at this; cases this
theorem Inv.bs (I : Inv X pins σ H s) : ∀ b o, X.base.get? b = some o → s.heap.get? b = some o ∧ H b = none := fun b o e =>
  ⟨I.base.keep b o (I.ok.bs b o e).1 (I.ok.bs b o e).2 (I.ok.nofr e) (I.ok.noex b o e), I.base.free b o (I.ok.bs b o e).1 (I.ok.bs b o e).2 (I.ok.noex b o e)⟩
theorem Inv.bk (I : Inv X pins σ H s) : ∀ b o, X.base.get? b = some o → s.heap.get? b = some o := fun b o e => (I.bs b o e).1
theorem Inv.mod (I : Inv X pins σ H s) : Mod X.K X.mg X.base := I.ok.mod
theorem Inv.kIn (I : Inv X pins σ H s) : X.K.In s.heap := I.ok.mod.kin.keeps I.bk
theorem Inv.nolimit (I : Inv X pins σ H s) : s.heap.NoLimit := I.ok.mod.nolimit.keeps I.bk
theorem Inv.fr (I : Inv X pins σ H s) : ∃ m, Fr X.base X.env.locals s.heap m :=
  let ⟨m, hn, _⟩ := I.loc
  ⟨m, hn, I.bk, Nat.le_trans I.ok.bsz I.ok.above⟩
theorem Inv.lt (I : Inv X pins σ H s) : X.env.locals < s.heap.objs.size := let ⟨_, hn, _⟩ := I.loc; hn.lt
theorem Inv.sz (I : Inv X pins σ H s) : X.s₀.heap.objs.size ≤ s.heap.objs.size := Nat.le_trans I.ok.above (Nat.le_of_lt I.lt)
theorem Inv.nofs (I : Inv X pins σ H s) {a : Addr} (h : s.heap.objs.size ≤ a) : a ∉ X.fs := fun hb => by
  obtain ⟨_, o, ho, _⟩ := I.ok.funs.mem hb
  exact absurd (Nat.lt_of_lt_of_le (Heap.lt_size ho) (Nat.le_trans I.sz h)) (Nat.lt_irrefl _)
theorem Inv.cne (I : Inv X pins σ H s) : ∀ x c, X.env.cells.lookup x = some c → c ≠ X.env.locals := fun x c e z => by
  obtain ⟨v, o, ho, hd⟩ := I.cell x c e
  obtain ⟨m, ⟨o', es, ep, ho', hd', _⟩, _⟩ := I.loc
  rw [z, ho'] at ho; cases ho; rw [hd'] at hd; cases hd
theorem Inv.funs (I : Inv X pins σ H s) : s.heap.FunFrames X.base X.outer := by
  have all : ∀ (l : List Env), (∀ b ∈ frs l, b ∈ X.fs) → X.s₀.heap.FunFrames X.base l → s.heap.FunFrames X.base l := by
    intro l
    induction l with
    | nil => intro _ _; trivial
    | cons env r ih =>
      intro hs hl
      obtain ⟨hk, ⟨L, o, hf, hn, ho, hd⟩, hr⟩ := hl
      have hL : L ∈ X.fs := hs L (by unfold frs; rw [List.filterMap_cons, hf]; exact List.mem_cons_self)
      obtain ⟨sl, e⟩ := I.base.slot L o ho (I.ok.frf L hL) hL fun z => I.ok.exfs L z hL
      exact ⟨hk, ⟨L, _, hf, hn, e, hd⟩, ih (fun b hb => hs b (by unfold frs; rw [List.filterMap_cons, hf]; exact List.mem_cons_of_mem _ hb)) hr⟩
  exact all X.outer (fun _ hb => hb) I.ok.funs
theorem Inv.stack (I : Inv X pins σ H s) : s.heap.FunFrames X.base X.stack := by
  rcases I.ok.stk with e | ⟨e, hf⟩
  · rw [e]; exact I.funs
  · rw [e]
    obtain ⟨m, hn, _⟩ := I.loc
    refine .cons (by rw [I.ok.kind]; decide) hf hn ?_ I.funs
    exact Heap.get?_none_of_le (Nat.le_trans I.ok.bsz I.ok.above)
theorem Inv.stkSub (I : Inv X pins σ H s) : ∀ b ∈ frs X.stack, b ∈ X.env.locals :: X.fs := fun b hb => by
  rcases I.ok.stk with e | ⟨e, hf⟩
  · rw [e] at hb; exact List.mem_cons_of_mem _ hb
  · rw [e] at hb
    unfold frs at hb
    rw [List.filterMap_cons, hf] at hb
    exact hb
theorem Inv.stkFree (I : Inv X pins σ H s) : ∀ b ∈ frs X.stack, H b = none := fun b hb => by
  rcases List.mem_cons.mp (I.stkSub b hb) with e | hb
  · rw [e]; exact I.free
  · obtain ⟨_, o, ho, _⟩ := I.ok.funs.mem hb
    exact I.base.free b o ho (I.ok.frf b hb) fun z => I.ok.exfs b z hb
theorem Inv.step {g' : Array GenState} {t' : Nat} {d' : Drawn} {ch : List Addr} (I : Inv X pins σ H s)
    (hch : ∀ b ∈ ch, (b ∈ X.ex ∨ X.s₀.heap.objs.size ≤ b) ∧ b ≠ X.env.locals ∧ (∀ x c, X.env.cells.lookup x = some c → c ≠ b) ∧ ∀ p ∈ X.pn ++ pins, p.1 ≠ b)
    (keep : ∀ b o, b ≠ X.env.locals → b ∉ X.fs → b ∉ ch → s.heap.get? b = some o → H b = none → h'.get? b = some o)
    (slot : ∀ b o, b ≠ X.env.locals → b ∈ X.fs → b ∉ ch → s.heap.get? b = some o → H b = none → ∃ sl, h'.get? b = some { o with slots := sl }) (free : ∀ b o, b ∉ ch → s.heap.get? b = some o → H b = none → H' b = none)
    (there : ∀ b o, b ∉ ch → s.heap.get? b = some o → ∃ o', h'.get? b = some o')
    (tups : ∀ b xs, H b = some (.tup xs) → H' b = some (.tup xs)) (frzs : ∀ b o u, H b = some (.frz o u) → H' b = some (.frz o u)) (tbls : ∀ b ps, H b = some (.tbl ps) → ∃ more, H' b = some (.tbl (ps ++ more)))
    (ns : ∀ m, s.heap.Ns X.env.locals m → h'.Ns X.env.locals m) (hok : HOk X.prog X.w H' h') (hg : AllBare g') :
    Inv X pins σ H' { s with heap := h', gens := g', drawn := d', toks := t' } := by
  have neL : ∀ b o, X.s₀.heap.get? b = some o → b ≠ X.env.locals := fun b o e => Nat.ne_of_lt (Nat.lt_of_lt_of_le (Heap.lt_size e) I.ok.above)
  have neC : ∀ b o, X.s₀.heap.get? b = some o → b ∉ X.ex → b ∉ ch := fun b o e hx hb => by
    rcases (hch b hb).1 with z | z
    · exact hx z
    · exact absurd (Nat.lt_of_lt_of_le (Heap.lt_size e) z) (Nat.lt_irrefl _)
  have cellK : ∀ x c, X.env.cells.lookup x = some c → ∀ v, s.heap.IsCell c v → h'.IsCell c v := fun x c e v ⟨o, ho, hd⟩ => by
    have nch : c ∉ ch := fun z => (hch c z).2.2.1 x c e rfl
    by_cases hc : c ∈ X.fs
    · obtain ⟨sl, q⟩ := slot c o (I.cne x c e) hc nch ho (I.freeC x c e)
      exact ⟨_, q, hd⟩
    · exact ⟨o, keep c o (I.cne x c e) hc nch ho (I.freeC x c e), hd⟩
  refine ⟨I.ok, I.os, hg, ⟨fun b o e n hb hx => ?_, fun b o e n hb hx => ?_, fun b o e n hx => ?_, fun b o e hx => ?_, fun b xs e => tups b xs (I.base.tups b xs e), fun b o xs e => frzs b o xs (I.base.frzs b o xs e), fun b ps e => ?_⟩, ?_, fun x c e => ?_, ?_, fun x c e => ?_, fun p hp => ?_, hok, I.len⟩
  · exact keep b o (neL b o e) hb (neC b o e hx) (I.base.keep b o e n hb hx) (I.base.free b o e n hx)
  · obtain ⟨sl, e1⟩ := I.base.slot b o e n hb hx
    obtain ⟨sl', e2⟩ := slot b _ (neL b o e) hb (neC b o e hx) e1 (I.base.free b o e n hx)
    exact ⟨sl', e2⟩
  · obtain ⟨o', e1⟩ := I.base.there b o e hx
    exact free b o' (neC b o e hx) e1 (I.base.free b o e n hx)
  · obtain ⟨o', e1⟩ := I.base.there b o e hx
    exact there b o' (neC b o e hx) e1
  · obtain ⟨m1, e1⟩ := I.base.tbls b ps e
    obtain ⟨m2, e2⟩ := tbls b _ e1
    exact ⟨m1 ++ m2, by rw [e2, Array.append_assoc]⟩
  · obtain ⟨m, hn, hl⟩ := I.loc
    refine ⟨m, ns m hn, fun i x v e1 e2 e3 => ?_⟩
    obtain ⟨u, r, l⟩ := hl i x v e1 e2 e3
    refine ⟨u, r, ?_⟩
    rcases l with l | ⟨k, c, e, z⟩
    · exact .inl l
    · exact .inr ⟨k, c, e, cellK x c e _ z⟩
  · obtain ⟨v, z⟩ := I.cell x c e
    exact ⟨v, cellK x c e v z⟩
  · obtain ⟨m, ⟨o, _, _, ho, _⟩, _⟩ := I.loc
    exact free _ o (fun z => (hch _ z).2.1 rfl) ho I.free
  · obtain ⟨v, o, ho, hd⟩ := I.cell x c e
    exact free c o (fun z => (hch c z).2.2.1 x c e rfl) ho (I.freeC x c e)
  · obtain ⟨e, n, ne, nf, d⟩ := I.pin p hp
    have nch : p.1 ∉ ch := fun z => (hch p.1 z).2.2.2 p hp rfl
    exact ⟨keep p.1 p.2 ne nf nch e n, free p.1 p.2 nch e n, ne, nf, d⟩
theorem Inv.un {t' : Nat} (I : Inv X pins σ H s) (u : Un X.fs [] H H' s.heap h') (hok : HOk X.prog X.w H' h') : Inv X pins σ H' { s with heap := h', toks := t' } := by
  obtain ⟨m, ⟨o, es, ep, ho, r⟩, _⟩ := id I.loc
  obtain ⟨sl, hL⟩ := u.any ho I.free (by simp)
  exact I.step (g' := s.gens) (d' := s.drawn) (ch := []) (fun _ z => nomatch z) (fun b o _ hb _ e n => u.keep b o e n hb (by simp)) (fun b o _ hb _ e n => u.slot b o e n hb (by simp)) (fun b o _ e n => u.free b o e n (by simp)) (fun b o _ e => u.there b o e (by simp)) u.tups u.frzs u.tbls (fun m' hm => by
    obtain ⟨o', es', ep', ho', r'⟩ := hm
    rw [ho] at ho'; cases ho'
    exact ⟨_, es', ep', hL, r'⟩) hok I.bare
theorem Inv.call {g' : Array GenState} {t' : Nat} {d' : Drawn} {ch : List Addr} (I : Inv X pins σ H s) (u : Un (frs X.stack) ch H H' s.heap h') (hok : HOk X.prog X.w H' h') (hg : AllBare g')
    (hch : ∀ b ∈ ch, (b ∈ X.ex ∨ X.s₀.heap.objs.size ≤ b) ∧ b ≠ X.env.locals ∧ (∀ x c, X.env.cells.lookup x = some c → c ≠ b) ∧ ∀ p ∈ X.pn ++ pins, p.1 ≠ b) :
    Inv X pins σ H' { s with heap := h', gens := g', drawn := d', toks := t' } := by
  obtain ⟨m, ⟨o, es, ep, ho, r⟩, _⟩ := id I.loc
  obtain ⟨sl, hL⟩ := u.any ho I.free fun z => (hch _ z).2.1 rfl
  exact I.step (ch := ch) hch (fun b o hL hb hc e n => u.keep b o e n (fun z => (List.mem_cons.mp (I.stkSub b z)).elim hL hb) hc) (fun b o _ _ hc e n => u.any e n hc) (fun b o hc e n => u.free b o e n hc) (fun b o hc e => u.there b o e hc) u.tups u.frzs u.tbls (fun m' hm => by
    obtain ⟨o', es', ep', ho', r'⟩ := hm
    rw [ho] at ho'; cases ho'
    exact ⟨_, es', ep', hL, r'⟩) hok hg
theorem Inv.turned {t' : Nat} {it : Addr} (I : Inv X pins σ H s) (k : ∀ b o, b ≠ it → s.heap.get? b = some o → h'.get? b = some o) (hn : H it = none) (hL : it ≠ X.env.locals)
    (h1 : it ∈ X.ex ∨ X.s₀.heap.objs.size ≤ it) (h2 : ∀ x c, X.env.cells.lookup x = some c → c ≠ it) (h3 : ∀ p ∈ X.pn ++ pins, p.1 ≠ it) : Inv X pins σ H { s with heap := h', toks := t' } := by
  have nit : ∀ b u, H b = some u → b ≠ it := fun b u e z => by rw [z, hn] at e; cases e
  refine I.step (g' := s.gens) (d' := s.drawn) (ch := [it]) (fun b hb => ?_) (fun b o _ _ hc e _ => k b o (fun z => hc (by simp [z])) e) (fun b o _ _ hc e _ => ⟨o.slots, k b o (fun z => hc (by simp [z])) e⟩) (fun _ _ _ _ n => n)
    (fun b o hc e => ⟨o, k b o (fun z => hc (by simp [z])) e⟩) (fun _ _ e => e) (fun _ _ _ e => e) (fun b ps e => ⟨#[], by rw [e]; simp⟩) (fun m hm => ?_) (fun b u e => ?_) I.bare
  · have e : b = it := by simpa using hb
    subst e
    exact ⟨h1, hL, h2, h3⟩
  · obtain ⟨o, es, ep, ho, r⟩ := hm
    exact ⟨o, es, ep, k _ o (Ne.symm hL) ho, r⟩
  · refine (I.hok b u e).stay (fun c v hc q => k c v ?_ q) (fun _ q => q) fun _ _ q => q
    rcases hc with z | z
    · rw [z]; exact nit b u e
    · exact nit c _ z
theorem Inv.tok (I : Inv X pins σ H s) (t : Nat) : Inv X pins σ H { s with toks := t } := I.un (h' := s.heap) (t' := t) Un.refl I.hok
theorem Inv.kept {t' : Nat} (I : Inv X pins σ H s) (k : ∀ b u, s.heap.get? b = some u → h'.get? b = some u) : Inv X pins σ H { s with heap := h', toks := t' } := I.un (Un.kept k) (I.hok.kept k)
theorem Inv.laid {a : Addr} {o : HO} {t' : Nat} (I : Inv X pins σ H s) (k : ∀ b u, s.heap.get? b = some u → h'.get? b = some u) (hp : s.heap.objs.size ≤ a) (new : ObjOk X.prog X.w (upd H a o) h' a o) :
    Inv X pins σ (upd H a o) { s with heap := h', toks := t' } := I.un (Un.laid k hp (I.hok.fresh hp)) (I.hok.laid k hp new)
theorem Inv.write {x e : Addr} {o : HO} {t' : Nat} (I : Inv X pins σ H s) (mu : Mut (H x)) (he : e = x ∨ H e = some (.own x)) (k : ∀ b u, b ≠ e → s.heap.get? b = some u → h'.get? b = some u) (heo : ∃ u, h'.get? e = some u)
    (new : ObjOk X.prog X.w (upd H x o) h' x o) : Inv X pins σ (upd H x o) { s with heap := h', toks := t' } := I.un (Un.write mu he k heo) (I.hok.write mu he k heo new)
theorem Inv.weak {σ' : List (Option V)} (I : Inv X pins σ H s) (hl : σ'.length = σ.length) (w : ∀ (i : Nat) v, σ'[i]? = some (some v) → σ[i]? = some (some v)) : Inv X pins σ' H s :=
  ⟨I.ok, I.os, I.bare, I.base, let ⟨m, hn, hl'⟩ := I.loc; ⟨m, hn, fun i x v e1 e2 e3 => hl' i x v e1 (w i v e2) e3⟩, I.cell, I.free, I.freeC, I.pin, I.hok, hl.trans I.len⟩
theorem Inv.pins_of {pins' : List (Addr × Obj)} (I : Inv X pins σ H s) (h : ∀ p ∈ pins', s.heap.get? p.1 = some p.2 ∧ H p.1 = none ∧ p.1 ≠ X.env.locals ∧ p.1 ∉ X.fs ∧ ∀ v, p.2.data ≠ .cell v) : Inv X pins' σ H s :=
  ⟨I.ok, I.os, I.bare, I.base, I.loc, I.cell, I.free, I.freeC, fun p hp => (List.mem_append.mp hp).elim (fun z => I.pin p (List.mem_append_left _ z)) (h p), I.hok, I.len⟩
theorem nodup_ix {N : List Str} (hN : N.Nodup) {i j : Nat} {x : Str} (a : N[i]? = some x) (b : N[j]? = some x) : i = j := by
  obtain ⟨h1, e1⟩ := List.getElem?_eq_some_iff.mp a
  obtain ⟨h2, e2⟩ := List.getElem?_eq_some_iff.mp b
  exact (List.getElem_inj hN).mp (e1.trans e2.symm)
theorem store_ok2 {M : Model} {A : Around} {E : Value → Shared → Prop} {i : Nat} {x : Str} {v : V} {u : Value} {Q : Unit → Shared → Prop} (I : Inv X pins σ H s) (hN : X.N.Nodup) (hi : X.N[i]? = some x) (hx : Loc X.env.scope x) (r : RelV v u)
    (h : ∀ s', Inv X pins (σ.set i (some v)) H s' → (∃ a, Heap.SameBut a s.heap s'.heap ∧ (a = X.env.locals ∨ X.env.cells.lookup x = some a)) → Q () s') (hf : X.fn x = true ∨ X.env.scope.names.lookup x = some .local := by first | exact .inl rfl | exact .inr rfl | assumption) : wpAny M A (storeName X.env x u) Q E s := by
  obtain ⟨m, hn, hl⟩ := id I.loc
  have hcls : (X.env.scope.kind == .class || (X.env.scope.kind == .module && X.env.locals != X.env.globals)) = false := by rw [I.ok.kind]; rfl
  have hiσ : i < σ.length := by rw [I.len]; exact (List.getElem?_eq_some_iff.mp hi).1
  have cne := I.cne
  have tracked : ∀ {a : Addr} {h' : Heap}, (∃ o, s.heap.get? a = some o ∧ H a = none) → Heap.SameBut a s.heap h' → HOk X.prog X.w H h' := fun {a h'} ha hs b ob e => by
    obtain ⟨_, _, hfree⟩ := ha
    refine (I.hok b ob e).stay (fun c w' hc q => (hs.2 c ?_).trans q) (fun _ q => q) fun _ _ q => q
    rintro rfl
    rcases hc with rfl | hc
    · rw [hfree] at e; cases e
    · rw [hfree] at hc; cases hc
  rcases hx with hk | hk
  · refine wpAny_storeName_local hk hn (fun h' hn' hs => ?_) hcls
    obtain ⟨oL, _, _, hoL, _⟩ := id hn
    refine h _ ⟨I.ok, I.os, I.bare, ⟨fun b o e n hb hx => ?_, fun b o e n hb hx => ?_, I.base.free, fun b o e hx => ?_, I.base.tups, I.base.frzs, I.base.tbls⟩, ⟨_, hn', fun j y v' e1 e2 e3 => ?_⟩, fun y c e => ?_, I.free, I.freeC, fun p hp => ?_, tracked ⟨oL, hoL, I.free⟩ hs, by simpa using I.len⟩ ⟨_, hs, .inl rfl⟩
    · exact (hs.2 b (Nat.ne_of_lt (Nat.lt_of_lt_of_le (Heap.lt_size e) I.ok.above))).trans (I.base.keep b o e n hb hx)
    · obtain ⟨sl, e1⟩ := I.base.slot b o e n hb hx
      exact ⟨sl, (hs.2 b (Nat.ne_of_lt (Nat.lt_of_lt_of_le (Heap.lt_size e) I.ok.above))).trans e1⟩
    · obtain ⟨o', e1⟩ := I.base.there b o e hx
      exact ⟨o', (hs.2 b (Nat.ne_of_lt (Nat.lt_of_lt_of_le (Heap.lt_size e) I.ok.above))).trans e1⟩
    · by_cases hj : j = i
      · subst hj
        rw [hi] at e1; cases e1
        rw [List.getElem?_set_self hiσ] at e2
        cases e2
        exact ⟨u, r, .inl ⟨hk, by simp⟩⟩
      · rw [List.getElem?_set_ne (Ne.symm hj)] at e2
        obtain ⟨u', r', q⟩ := hl j y v' e1 e2 e3
        refine ⟨u', r', ?_⟩
        rcases q with ⟨k, e⟩ | ⟨k, c, e, z⟩
        · refine .inl ⟨k, ?_⟩
          have : y ≠ x := fun e => hj (nodup_ix hN e1 (e ▸ hi))
          simp [this, e]
        · exact .inr ⟨k, c, e, z.sameBut hs (cne y c e)⟩
    · obtain ⟨w', z⟩ := I.cell y c e
      exact ⟨w', z.sameBut hs (cne y c e)⟩
    · obtain ⟨e, n, ne, nf, d⟩ := I.pin p hp
      exact ⟨(hs.2 p.1 ne).trans e, n, ne, nf, d⟩
  · have hfn : X.fn x = true := by
      rcases hf with z | z
      · exact z
      · rw [z] at hk; cases hk
    obtain ⟨c, hc⟩ := I.ok.has x (.inl hk)
    obtain ⟨w', z⟩ := I.cell x c hc
    refine wpAny_storeName_cell I.ok.kind hk hc z (fun h' hc' hs => ?_)
    obtain ⟨oc, hoc, hocd⟩ := id z
    refine h { s with heap := h' } ⟨I.ok, I.os, I.bare, ⟨fun b o e n hb hx => ?_, fun b o e n hb hx => ?_, I.base.free, fun b o e hx => ?_, I.base.tups, I.base.frzs, I.base.tbls⟩, ⟨m, hn.sameBut hs (Ne.symm (cne x c hc)), fun j y v' e1 e2 e3 => ?_⟩, fun y c' e => ?_, I.free, I.freeC, fun p hp => ?_, tracked ⟨oc, hoc, I.freeC x c hc⟩ hs, by simpa using I.len⟩ ⟨c, hs, .inr hc⟩
    · exact (hs.2 b (Nat.ne_of_lt (Nat.lt_of_lt_of_le (Heap.lt_size e) (I.ok.cab x c hfn hc)))).trans (I.base.keep b o e n hb hx)
    · obtain ⟨sl, e1⟩ := I.base.slot b o e n hb hx
      exact ⟨sl, (hs.2 b (Nat.ne_of_lt (Nat.lt_of_lt_of_le (Heap.lt_size e) (I.ok.cab x c hfn hc)))).trans e1⟩
    · obtain ⟨o', e1⟩ := I.base.there b o e hx
      exact ⟨o', (hs.2 b (Nat.ne_of_lt (Nat.lt_of_lt_of_le (Heap.lt_size e) (I.ok.cab x c hfn hc)))).trans e1⟩
    · by_cases hj : j = i
      · subst hj
        rw [hi] at e1; cases e1
        rw [List.getElem?_set_self hiσ] at e2
        cases e2
        exact ⟨u, r, .inr ⟨.inl hk, c, hc, hc'⟩⟩
      · rw [List.getElem?_set_ne (Ne.symm hj)] at e2
        obtain ⟨u', r', q⟩ := hl j y v' e1 e2 e3
        refine ⟨u', r', ?_⟩
        rcases q with q | ⟨k, c', e, z'⟩
        · exact .inl q
        · refine .inr ⟨k, c', e, z'.sameBut hs ?_⟩
          rintro rfl
          exact hj (nodup_ix hN e1 (I.ok.inj _ _ _ e hc ▸ hi))
    · by_cases hcc : c' = c
      · subst hcc; exact ⟨_, hc'⟩
      · obtain ⟨w2, z2⟩ := I.cell y c' e
        exact ⟨w2, z2.sameBut hs hcc⟩
    · obtain ⟨e, n, ne, nf, d⟩ := I.pin p hp
      refine ⟨(hs.2 p.1 ?_).trans e, n, ne, nf, d⟩
      intro q
      rw [q, hoc] at e
      have q' : oc = p.2 := Option.some.inj e
      exact d w' (by rw [← q']; exact hocd)
theorem store_ok {M : Model} {A : Around} {E : Value → Shared → Prop} {i : Nat} {x : Str} {v : V} {u : Value} {Q : Unit → Shared → Prop} (I : Inv X pins σ H s) (hN : X.N.Nodup) (hi : X.N[i]? = some x) (hx : Loc X.env.scope x) (r : RelV v u)
    (h : ∀ s', Inv X pins (σ.set i (some v)) H s' → Q () s') (hf : X.fn x = true ∨ X.env.scope.names.lookup x = some .local := by first | exact .inl rfl | exact .inr rfl | assumption) : wpAny M A (storeName X.env x u) Q E s :=
  store_ok2 I hN hi hx r (fun s' I' _ => h s' I') hf
theorem Inv.call' {s' : Shared} {ch : List Addr} (I : Inv X pins σ H s) (ho : s'.os = s.os) (u : Un (frs X.stack) ch H H' s.heap s'.heap) (hok : HOk X.prog X.w H' s'.heap) (hg : AllBare s'.gens)
    (hch : ∀ b ∈ ch, (b ∈ X.ex ∨ X.s₀.heap.objs.size ≤ b) ∧ b ≠ X.env.locals ∧ (∀ x c, X.env.cells.lookup x = some c → c ≠ b) ∧ ∀ p ∈ X.pn ++ pins, p.1 ≠ b) : Inv X pins σ H' s' := by
  obtain ⟨h', g', d', t', o'⟩ := s'
  have e : o' = s.os := ho
  subst e
  exact I.call (g' := g') (t' := t') (d' := d') u hok hg hch
end
abbrev XK := Value → Option Addr → Hp → Prop
abbrev St := List (Option V)
abbrev VK := V → Hp → Prop
abbrev TE := St → Hp → VK → Prop
abbrev TT := St → Hp → (Bool → Hp → Prop) → Prop
abbrev TA := St → Hp → (List V → Hp → Prop) → Prop
structure Ends where
  nx : St → Hp → Prop
  rt : VK
  bk : St → Hp → Prop := fun _ _ => False
  ct : St → Hp → Prop := fun _ _ => False
abbrev TS := Ends → St → Hp → Prop
def EP (X : Cx) (pins : List (Addr × Obj)) (σ : St) (Q : VK) (u : Value) (s' : Shared) : Prop := ∃ v H', Inv X pins σ H' s' ∧ RelV v u ∧ Q v H'
def TP (X : Cx) (pins : List (Addr × Obj)) (σ : St) (Q : Bool → Hp → Prop) (b : Bool) (s' : Shared) : Prop := ∃ H', Inv X pins σ H' s' ∧ Q b H'
def AP (X : Cx) (pins : List (Addr × Obj)) (σ : St) (Q : List V → Hp → Prop) (us : List Value) (s' : Shared) : Prop := ∃ vs H', Inv X pins σ H' s' ∧ Vals vs us ∧ Q vs H'
def SP (X : Cx) (pins : List (Addr × Obj)) (D : Ends) (f : Flow) (s' : Shared) : Prop :=
  match f with
  | .next => ∃ σ' H', Inv X pins σ' H' s' ∧ D.nx σ' H'
  | .brk => ∃ σ' H', Inv X pins σ' H' s' ∧ D.bk σ' H'
  | .cont => ∃ σ' H', Inv X pins σ' H' s' ∧ D.ct σ' H'
  | .ret u => ∃ v σ' H', Inv X pins σ' H' s' ∧ RelV v u ∧ D.rt v H'
def PE (X : Cx) (e : Expr) (t : TE) : Prop :=
  ∀ (pins : List (Addr × Obj)) (s : Shared) (σ : St) (H : Hp) (Q : VK), Inv X pins σ H s → t σ H Q → wpAny (model X.prog X.w) X.A (eval e X.env) (EP X pins σ Q) X.xe s
def PT (X : Cx) (e : Expr) (t : TT) : Prop :=
  ∀ (pins : List (Addr × Obj)) (s : Shared) (σ : St) (H : Hp) (Q : Bool → Hp → Prop), Inv X pins σ H s → t σ H Q → wpAny (model X.prog X.w) X.A (isTrue e X.env (eval e X.env)) (TP X pins σ Q) X.xe s
def PW (X : Cx) (e : Expr) (t : TT) : Prop :=
  ∀ (whole : Sem Value) (pins : List (Addr × Obj)) (s : Shared) (σ : St) (H : Hp) (Q : Bool → Hp → Prop), Inv X pins σ H s → t σ H Q → wpAny (model X.prog X.w) X.A (isTrue e X.env whole) (TP X pins σ Q) X.xe s
theorem PW.pt {X : Cx} {e : Expr} {t : TT} (h : PW X e t) : PT X e t := h _
def PA (X : Cx) (es : List Expr) (t : TA) : Prop :=
  ∀ (pos : Pos) (pins : List (Addr × Obj)) (s : Shared) (σ : St) (H : Hp) (Q : List V → Hp → Prop), Inv X pins σ H s → t σ H Q → wpAny (model X.prog X.w) X.A (spliced (backTo pos (starEach es X.env))) (AP X pins σ Q) X.xe s
def PS (X : Cx) (st : Stmt) (t : TS) : Prop :=
  ∀ (pins : List (Addr × Obj)) (s : Shared) (σ : St) (H : Hp) (D : Ends), Inv X pins σ H s → t D σ H → wpAny (model X.prog X.w) X.A (exec st X.env) (SP X pins D) X.xe s
def PSs (X : Cx) (st : List Stmt) (t : TS) : Prop :=
  ∀ (pins : List (Addr × Obj)) (s : Shared) (σ : St) (H : Hp) (D : Ends), Inv X pins σ H s → t D σ H → wpAny (model X.prog X.w) X.A (execs st X.env) (SP X pins D) X.xe s
theorem thn {α : Type} {t : Sem α} {Q Q' : α → Shared → Prop} {M : Model} {A : Around} {E : Value → Shared → Prop} {s : Shared} (h : wpAny M A t Q E s) (hQ : ∀ a s, Q a s → Q' a s) : wpAny M A t Q' E s := wpAny_mono h hQ fun _ _ x => x
end L2
namespace L2
open PySem PySem.Spec PyProof.Rows
section
variable {X : Cx}
theorem bin {a b : Expr} {ta tb : TE} (ha : PE X a ta) (hb : PE X b tb) {pins : List (Addr × Obj)} {s : Shared} {σ : St} {H : Hp} {R : V → V → Hp → Prop} (I : Inv X pins σ H s) (h : ta σ H fun x H1 => tb σ H1 fun y H2 => R x y H2)
    {α : Type} {Q : α → Shared → Prop} {f : Value → Value → Sem α}
    (hf : ∀ v u s2 x y H2, Inv X pins σ H2 s2 → RelV x v → RelV y u → R x y H2 → wpAny (model X.prog X.w) X.A (f v u) Q X.xe s2) :
    wpAny (model X.prog X.w) X.A (eval a X.env) (fun v s₁ => wpAny (model X.prog X.w) X.A (eval b X.env) (fun u s₂ => wpAny (model X.prog X.w) X.A (f v u) Q X.xe s₂) X.xe s₁) X.xe s := by
  refine thn (ha pins s σ H _ I h) fun v s1 ⟨x, H1, I1, r1, q1⟩ => ?_
  refine thn (hb pins s1 σ H1 _ I1 q1) fun u s2 ⟨y, H2, I2, r2, q2⟩ => ?_
  exact hf v u s2 x y H2 I2 r1 r2 q2
def tVar (i : Nat) : TE := fun σ H Q => ∃ v, σ[i]? = some (some v) ∧ Q v H
def tC (v : V) : TE := fun _ H Q => Q v H
theorem pe_var {i : Nat} {x : Str} {pos : Pos} (hN : X.N[i]? = some x) (hv : Vis X.env.scope x) (hd : (x == ("__debug__" : Str)) = false := by decide) (hcd : (x == ("__classdict__" : Str)) = false := by decide) : PE X (.Name x pos) (tVar i) := by
  intro pins s σ H Q I h
  obtain ⟨v, e, h⟩ := h
  obtain ⟨m, hn, hl⟩ := I.loc
  obtain ⟨u, r, l⟩ := hl i x v hN e hv
  have fin : EP X pins σ Q u s := ⟨v, H, I, r, h⟩
  rcases l with ⟨hk, hm⟩ | ⟨hk, c, hc, hcell⟩
  · exact wpAny_Name (wpAny_loadName_local I.ok.kind hk hn hm fin) hd
  · rcases hk with hk | hk
    · exact wpAny_Name (wpAny_loadName_cell I.ok.kind hk hc hcell fin) hd
    · exact wpAny_Name (wpAny_loadName_free I.ok.kind hk hc hcell fin hcd) hd
theorem pe_int {i j pos} : PE X (.Constant (.int i) j pos) (tC (.int i)) := fun _ _ _ H _ I h => wpAny_Constant_int ⟨.int i, H, I.tok _, ⟨_, rfl⟩, h⟩
theorem pe_bl {b j pos} : PE X (.Constant (.bool b) j pos) (tC (.bl b)) := fun _ _ _ H _ I h => Constant_bool ⟨.bl b, H, I, rfl, h⟩
theorem pe_non {j pos} : PE X (.Constant .none j pos) (tC .non) := fun _ _ _ H _ I h => Constant_none ⟨.non, H, I, rfl, h⟩
theorem pe_str {x j pos} : PE X (.Constant (.str x) j pos) (tC (.str x)) := fun _ _ _ H _ I h => Calls.Constant_str ⟨.str x, H, I.tok _, ⟨_, rfl⟩, h⟩
def Gl (X : Cx) (x : Str) : Prop := X.env.kindOf x = some .globalImplicit
theorem ld_glob {E : Value → Shared → Prop} {pins : List (Addr × Obj)} {s : Shared} {σ : St} {H : Hp} {x : Str} {u : Value} {pos : Pos} {Q : Value → Shared → Prop} (I : Inv X pins σ H s) (hg : Gl X x) (hm : X.mg x = some u) (h : Q u s)
    (hd : (x == ("__debug__" : Str)) = false := by decide) : wpAny (model X.prog X.w) X.A (eval (.Name x pos) X.env) Q E s :=
  Calls.Name_function_global I.ok.kind hg (Calls.loadGlobal_global (by rw [I.ok.glob]; exact I.mod.glob.keeps I.bk) hm h) hd
theorem ld_blt {E : Value → Shared → Prop} {pins : List (Addr × Obj)} {s : Shared} {σ : St} {H : Hp} {x : Str} {u : Value} {pos : Pos} {Q : Value → Shared → Prop} (I : Inv X pins σ H s) (hg : Gl X x) (hm : X.mg x = none) (hv : bootBuiltins x = some u) (h : Q u s)
    (hn : x ≠ "__name__" := by decide) (hd : (x == ("__debug__" : Str)) = false := by decide) : wpAny (model X.prog X.w) X.A (eval (.Name x pos) X.env) Q E s := by
  obtain ⟨mb, h1, h2⟩ := I.mod.blt
  exact Calls.Name_function_global I.ok.kind hg (Calls.loadGlobal_builtin (by rw [I.ok.glob]; exact I.mod.glob.keeps I.bk) hm (by rw [I.ok.blt]; exact h1.keeps I.bk) ((h2 x hn).trans hv) h) hd
theorem pe_glob {x : Str} {v : V} {u : Value} {pos : Pos} (hg : Gl X x) (hm : X.mg x = some u) (r : RelV v u) (hd : (x == ("__debug__" : Str)) = false := by decide) : PE X (.Name x pos) (tC v) :=
  fun _ _ _ H _ I h => ld_glob I hg hm ⟨v, H, I, r, h⟩ hd
theorem pe_bltn {x : Str} {v : V} {u : Value} {pos : Pos} (hg : Gl X x) (hm : X.mg x = none) (hv : bootBuiltins x = some u) (r : RelV v u) (hn : x ≠ "__name__" := by decide) (hd : (x == ("__debug__" : Str)) = false := by decide) : PE X (.Name x pos) (tC v) :=
  fun _ _ _ H _ I h => ld_blt I hg hm hv ⟨v, H, I, r, h⟩ hn hd
def t2I (ta tb : TE) (k : Int → Int → Hp → Prop) : St → Hp → Prop := fun σ H => ta σ H fun x H1 => tb σ H1 fun y H2 => ∃ i j, x = .int i ∧ y = .int j ∧ k i j H2
def tAdd (ta tb : TE) : TE := fun σ H Q => t2I ta tb (fun i j H2 => Q (.int (i + j)) H2) σ H
def tSub (ta tb : TE) : TE := fun σ H Q => t2I ta tb (fun i j H2 => Q (.int (i - j)) H2) σ H
def tMul (ta tb : TE) : TE := fun σ H Q => t2I ta tb (fun i j H2 => (-(2 ^ 64) < i ∧ i < 2 ^ 64) ∧ Q (.int (i * j)) H2) σ H
variable {a b : Expr} {ta tb : TE} {pos : Pos}
theorem pe_add (ha : PE X a ta) (hb : PE X b tb) : PE X (.BinOp a .Add b pos) (tAdd ta tb) := by
  intro pins s σ H Q I h
  refine wpAny_BinOp (bin ha hb I h fun v u s2 x y H2 I2 rx ry q => ?_)
  obtain ⟨i, j, rfl, rfl, q⟩ := q
  obtain ⟨t, rfl⟩ := rx
  obtain ⟨t', rfl⟩ := ry
  exact add_int ⟨.int _, H2, I2.tok _, ⟨_, rfl⟩, q⟩
theorem pe_sub (ha : PE X a ta) (hb : PE X b tb) : PE X (.BinOp a .Sub b pos) (tSub ta tb) := by
  intro pins s σ H Q I h
  refine wpAny_BinOp (bin ha hb I h fun v u s2 x y H2 I2 rx ry q => ?_)
  obtain ⟨i, j, rfl, rfl, q⟩ := q
  obtain ⟨t, rfl⟩ := rx
  obtain ⟨t', rfl⟩ := ry
  exact sub_int ⟨.int _, H2, I2.tok _, ⟨_, rfl⟩, q⟩
theorem pe_mul (ha : PE X a ta) (hb : PE X b tb) : PE X (.BinOp a .Mult b pos) (tMul ta tb) := by
  intro pins s σ H Q I h
  refine wpAny_BinOp (bin ha hb I h fun v u s2 x y H2 I2 rx ry q => ?_)
  obtain ⟨i, j, rfl, rfl, ⟨q1, q2⟩, q⟩ := q
  obtain ⟨t, rfl⟩ := rx
  obtain ⟨t', rfl⟩ := ry
  exact mul_int ⟨.int _, H2, I2.tok _, ⟨_, rfl⟩, q⟩ (.of_left (intBits_le_64 q1 q2))
def PC (X : Cx) (op : CmpOp) (a b : Expr) (t : TE) : Prop :=
  ∀ (pins : List (Addr × Obj)) (s : Shared) (σ : St) (H : Hp) (Q : VK), Inv X pins σ H s → t σ H Q →
    wpAny (model X.prog X.w) X.A (eval a X.env) (fun v s₁ => wpAny (model X.prog X.w) X.A (eval b X.env) (fun u s₂ => wpAny (model X.prog X.w) X.A (compareOp op v u) (EP X pins σ Q) X.xe s₂) X.xe s₁) X.xe s
theorem nobehind (b : Expr) {op : CmpOp} (h : op ≠ .In) (h2 : op ≠ .NotIn) : behindInMarks op b = false := by
  have e1 : (op == CmpOp.In) = false := by cases op <;> first | rfl | exact absurd rfl h
  have e2 : (op == CmpOp.NotIn) = false := by cases op <;> first | rfl | exact absurd rfl h2
  cases b <;> simp [behindInMarks, e1, e2]
def tCmp (p : Int → Int → Bool) (ta tb : TE) : TE := fun σ H Q => t2I ta tb (fun i j H2 => Q (.bl (p i j)) H2) σ H
abbrev tLt : TE → TE → TE := tCmp fun i j => decide (i < j)
abbrev tLe : TE → TE → TE := tCmp fun i j => decide (i ≤ j)
abbrev tGt : TE → TE → TE := tCmp fun i j => decide (j < i)
abbrev tGe : TE → TE → TE := tCmp fun i j => decide (j ≤ i)
abbrev tEqI : TE → TE → TE := tCmp fun i j => decide (i = j)
abbrev tNeI : TE → TE → TE := tCmp fun i j => !decide (i = j)
theorem pc_int {op : CmpOp} {p : Int → Int → Bool} (ha : PE X a ta) (hb : PE X b tb)
    (rule : ∀ (i j : Int) (t u : Tok) (Q : Value → Shared → Prop) (s : Shared), Q (.bool (p i j)) s → wpAny (model X.prog X.w) X.A (compareOp op (.int i t) (.int j u)) Q X.xe s) : PC X op a b (tCmp p ta tb) := by
  intro pins s σ H Q I h
  refine bin ha hb I h fun v u s2 x y H2 I2 rx ry q => ?_
  obtain ⟨i, j, rfl, rfl, q⟩ := q
  obtain ⟨t, rfl⟩ := rx
  obtain ⟨t', rfl⟩ := ry
  exact rule i j t t' _ s2 ⟨.bl _, H2, I2, rfl, q⟩
theorem pc_lt (ha : PE X a ta) (hb : PE X b tb) : PC X .Lt a b (tLt ta tb) := pc_int ha hb fun _ _ _ _ _ _ h => lt_int h
theorem pc_le (ha : PE X a ta) (hb : PE X b tb) : PC X .LtE a b (tLe ta tb) := pc_int ha hb fun _ _ _ _ _ _ h => le_int h
theorem pc_gt (ha : PE X a ta) (hb : PE X b tb) : PC X .Gt a b (tGt ta tb) := pc_int ha hb fun _ _ _ _ _ _ h => gt_int h
theorem pc_ge (ha : PE X a ta) (hb : PE X b tb) : PC X .GtE a b (tGe ta tb) := pc_int ha hb fun _ _ _ _ _ _ h => ge_int h
theorem pc_eqI (ha : PE X a ta) (hb : PE X b tb) : PC X .Eq a b (tEqI ta tb) := pc_int ha hb fun _ _ _ _ _ _ h => eq_int (by rw [Bool.beq_eq_decide_eq]; exact h)
theorem pc_neI (ha : PE X a ta) (hb : PE X b tb) : PC X .NotEq a b (tNeI ta tb) := pc_int ha hb fun _ _ _ _ _ _ h => ne_int (by rw [bne, Bool.beq_eq_decide_eq]; exact h)
def tIsN (ta : TE) : TE := fun σ H Q => ta σ H fun x H1 => Q (.bl (decide (x = .non))) H1
def tNotN (ta : TE) : TE := fun σ H Q => ta σ H fun x H1 => Q (.bl (!decide (x = .non))) H1
theorem RelV.none_iff {x : V} {v : Value} (r : RelV x v) : (v == Value.none) = decide (x = .non) := by
  cases x with
  | non => cases r; rfl
  | bl _ => cases r; rfl
  | int _ => obtain ⟨t, rfl⟩ := r; rfl
  | str _ => obtain ⟨t, rfl⟩ := r; rfl
  | byt _ => obtain ⟨t, rfl⟩ := r; rfl
  | flt _ => obtain ⟨t, rfl⟩ := r; rfl
  | ref _ => cases r; rfl
  | ty _ => cases r; rfl
theorem pc_isN {j pos'} (ha : PE X a ta) : PC X .Is a (.Constant .none j pos') (tIsN ta) := by
  intro pins s σ H Q I h
  refine thn (ha pins s σ H _ I h) fun v s1 ⟨x, H1, I1, r1, q1⟩ => ?_
  exact Constant_none (is_none_gen ⟨.bl _, H1, I1, by rw [r1.none_iff]; rfl, q1⟩)
theorem pc_notN {j pos'} (ha : PE X a ta) : PC X .IsNot a (.Constant .none j pos') (tNotN ta) := by
  intro pins s σ H Q I h
  refine thn (ha pins s σ H _ I h) fun v s1 ⟨x, H1, I1, r1, q1⟩ => ?_
  exact Constant_none (isnot_none_gen ⟨.bl _, H1, I1, by rw [r1.none_iff]; rfl, q1⟩)
def tB (t : TE) : TT := fun σ H Q => t σ H fun x H1 => ∃ c, x = .bl c ∧ Q c H1
theorem pe_cmp {op : CmpOp} {t : TE} (h : PC X op a b t) (h1 : behindInMarks op b = false := by first | exact nobehind _ (by decide) (by decide) | rfl) : PE X (.Compare a [op] [b] pos) t := fun pins s σ H Q I hw => wpAny_Compare1 (h pins s σ H Q I hw) h1
theorem pt_cmp {op : CmpOp} {t : TE} (h : PC X op a b t) (h1 : behindInMarks op b = false := by first | exact nobehind _ (by decide) (by decide) | rfl) : PT X (.Compare a [op] [b] pos) (tB t) := by
  intro pins s σ H Q I hw
  refine wpAny_isTrue_Compare1 (thn (h pins s σ H _ I hw) fun v s1 h1 => thn h1 fun u s2 h2 => thn h2 fun c s3 ⟨x, H1, I1, r1, q1⟩ => ?_) h1
  obtain ⟨d, rfl, q⟩ := q1
  cases r1
  exact wpAny_truthy_bool ⟨H1, I1, q⟩
theorem pt_val {e : Expr} {t : TE} (h : PE X e t) (he : ∀ whole, isTrue e X.env whole = (do let v ← whole; standAt e.pos; holding [v] (truthy v)) := by intro _; rfl) : PT X e (tB t) := by
  intro pins s σ H Q I hw
  refine isTrue_plain (thn (h pins s σ H _ I hw) fun v s1 ⟨x, H1, I1, r1, q1⟩ => ?_) (he _)
  obtain ⟨d, rfl, q⟩ := q1
  cases r1
  exact wpAny_truthy_bool ⟨H1, I1, q⟩
variable {tA tB' : TT} {rest : List Expr}
def tAnd (t u : TT) : TT := fun σ H Q => t σ H fun c H1 => if c = true then u σ H1 Q else Q false H1
def tOr (t u : TT) : TT := fun σ H Q => t σ H fun c H1 => if c = true then Q true H1 else u σ H1 Q
def tNot (t : TT) : TT := fun σ H Q => t σ H fun c H1 => Q (!c) H1
theorem pw_and1 (ha : PT X a tA) : PW X (.BoolOp .And [a] pos) tA := by
  intro wh pins s σ H Q I h
  refine isTrue_and (thn (ha pins s σ H Q I h) fun c s1 e => ?_)
  cases c with
  | true => exact isTrue_and_nil e
  | false => exact e
theorem pw_or1 (ha : PT X a tA) : PW X (.BoolOp .Or [a] pos) tA := by
  intro wh pins s σ H Q I h
  refine isTrue_or (thn (ha pins s σ H Q I h) fun c s1 e => ?_)
  cases c with
  | false => exact isTrue_or_nil e
  | true => exact e
theorem pw_and (ha : PT X a tA) (hb : PW X (.BoolOp .And (b :: rest) pos) tB') : PW X (.BoolOp .And (a :: b :: rest) pos) (tAnd tA tB') := by
  intro wh pins s σ H Q I h
  refine isTrue_and (thn (ha pins s σ H _ I h) fun c s1 ⟨H1, I1, q1⟩ => ?_)
  cases c with
  | true => exact hb wh pins s1 σ H1 Q I1 q1
  | false => exact ⟨H1, I1, q1⟩
theorem pw_or (ha : PT X a tA) (hb : PW X (.BoolOp .Or (b :: rest) pos) tB') : PW X (.BoolOp .Or (a :: b :: rest) pos) (tOr tA tB') := by
  intro wh pins s σ H Q I h
  refine isTrue_or (thn (ha pins s σ H _ I h) fun c s1 ⟨H1, I1, q1⟩ => ?_)
  cases c with
  | true => exact ⟨H1, I1, q1⟩
  | false => exact hb wh pins s1 σ H1 Q I1 q1
theorem pt_not (ha : PT X a tA) : PT X (.UnaryOp .Not a pos) (tNot tA) := by
  intro pins s σ H Q I h
  exact isTrue_not (ha pins s σ H (fun c H1 => Q (!c) H1) I h)
def tAndV (ta tb : TE) : TE := fun σ H Q => ta σ H fun x H1 => ∃ c, x = .bl c ∧ if c = true then tb σ H1 Q else Q (.bl false) H1
def tOrV (ta tb : TE) : TE := fun σ H Q => ta σ H fun x H1 => ∃ c, x = .bl c ∧ if c = true then Q (.bl true) H1 else tb σ H1 Q
def tNotV (ta : TE) : TE := fun σ H Q => ta σ H fun x H1 => ∃ c, x = .bl c ∧ Q (.bl (!c)) H1
theorem pe_one {op} {t : TE} (h : PE X a t) : PE X (.BoolOp op [a] pos) t := fun pins s σ H Q I hw => BoolOp_one (h pins s σ H Q I hw)
theorem pe_and (ha : PE X a ta) (hb : PE X (.BoolOp .And (b :: rest) pos) tb) : PE X (.BoolOp .And (a :: b :: rest) pos) (tAndV ta tb) := by
  intro pins s σ H Q I h
  refine BoolOp_and (thn (ha pins s σ H _ I h) fun v s1 ⟨x, H1, I1, r1, q1⟩ => ?_)
  obtain ⟨c, rfl, q1⟩ := q1
  cases r1
  refine wpAny_truthy_bool ?_
  cases c with
  | true => exact hb pins s1 σ H1 Q I1 q1
  | false => exact ⟨.bl false, H1, I1, rfl, q1⟩
theorem pe_or (ha : PE X a ta) (hb : PE X (.BoolOp .Or (b :: rest) pos) tb) : PE X (.BoolOp .Or (a :: b :: rest) pos) (tOrV ta tb) := by
  intro pins s σ H Q I h
  refine BoolOp_or (thn (ha pins s σ H _ I h) fun v s1 ⟨x, H1, I1, r1, q1⟩ => ?_)
  obtain ⟨c, rfl, q1⟩ := q1
  cases r1
  refine wpAny_truthy_bool ?_
  cases c with
  | false => exact hb pins s1 σ H1 Q I1 q1
  | true => exact ⟨.bl true, H1, I1, rfl, q1⟩
theorem pe_not (ha : PE X a ta) : PE X (.UnaryOp .Not a pos) (tNotV ta) := by
  intro pins s σ H Q I h
  refine UnaryOp_ (thn (ha pins s σ H _ I h) fun v s1 ⟨x, H1, I1, r1, q1⟩ => ?_)
  obtain ⟨c, rfl, q1⟩ := q1
  cases r1
  exact not_of (wpAny_truthy_bool ⟨.bl (!c), H1, I1, rfl, q1⟩)
def tIf (t : TT) (ta tb : TE) : TE := fun σ H Q => t σ H fun c H1 => if c = true then ta σ H1 Q else tb σ H1 Q
theorem pe_ifExp {c : Expr} (hc : PT X c tA) (ha : PE X a ta) (hb : PE X b tb) : PE X (.IfExp c a b pos) (tIf tA ta tb) := by
  intro pins s σ H Q I h
  refine wpAny_IfExp (thn (hc pins s σ H _ I h) fun d s1 ⟨H1, I1, q1⟩ => ?_)
  cases d with
  | true => exact ha pins s1 σ H1 Q I1 q1
  | false => exact hb pins s1 σ H1 Q I1 q1
end
end L2
namespace L2
open PySem PySem.Spec PyProof.Rows
def SqL (K : PySem.W.Frag) (H : Hp) (a : Addr) (xs : List V) : Prop :=
  Rd H a (.lst xs) ∨
    ∃ (o : Obj) (its : Array Value) (n : Nat), K.lookup a = some o ∧ o.cls = .type "list" ∧ o.dict = none ∧ o.data = .seq its n ∧ its.size ≤ sizeLine ∧ Vals xs its.toList
def SqT (K : PySem.W.Frag) (H : Hp) (a : Addr) (xs : List V) : Prop :=
  Rd H a (.tup xs) ∨
    ∃ (o : Obj) (its : Array Value) (n : Nat), K.lookup a = some o ∧ o.cls = .type "tuple" ∧ o.data = .seq its n ∧ its.size ≤ sizeLine ∧ Vals xs its.toList
def absV : Value → Option V
  | .none => some .non
  | .bool b => some (.bl b)
  | .int i _ => some (.int i)
  | .str x _ => some (.str x)
  | .bytes b _ => some (.byt b)
  | .float b _ => some (.flt b)
  | .ref a => some (.ref a)
  | .type n => some (.ty n)
  | _ => none
theorem RelV.abs {x : V} {u : Value} (r : RelV x u) : absV u = some x := by
  cases x with
  | non => cases r; rfl
  | bl _ => cases r; rfl
  | int _ => obtain ⟨t, rfl⟩ := r; rfl
  | str _ => obtain ⟨t, rfl⟩ := r; rfl
  | byt _ => obtain ⟨t, rfl⟩ := r; rfl
  | flt _ => obtain ⟨t, rfl⟩ := r; rfl
  | ref _ => cases r; rfl
  | ty _ => cases r; rfl
theorem RelV.inj {x y : V} {u : Value} (r : RelV x u) (q : RelV y u) : x = y := Option.some.inj (r.abs.symm.trans q.abs)
theorem Vals.inj : ∀ {xs ys : List V} {us : List Value}, Vals xs us → Vals ys us → xs = ys
  | _, _, _, .nil, .nil => rfl
  | _, _, _, .cons r t, .cons r' t' => by rw [r.inj r', Vals.inj t t']
section
variable {X : Cx} {pins : List (Addr × Obj)} {σ : St} {H : Hp} {s : Shared} {a : Addr} {xs ys : List V}
theorem SqL.of {K : PySem.W.Frag} (h : H a = some (.lst xs)) : SqL K H a xs := .inl (.inl h)
theorem SqT.of {K : PySem.W.Frag} (h : H a = some (.tup xs)) : SqT K H a xs := .inl (.inl h)
theorem Inv.list (I : Inv X pins σ H s) (h : SqL X.K H a xs) : ∃ its : List Value, Vals xs its ∧ PlainL s.heap a its.toArray ∧ xs.length ≤ sizeLine := by
  rcases h with h | ⟨o, its, n, hk, hc, hd, hs, hz, r⟩
  · obtain ⟨z, its, n, r, e⟩ := h.ok I.hok
    exact ⟨its, r, ⟨_, n, e, rfl, rfl, rfl⟩, z⟩
  · refine ⟨its.toList, r, ⟨o, n, I.kIn a o hk, hc, hd, by simpa using hs⟩, ?_⟩
    have e := r.length
    simp only [Array.length_toList] at e
    omega
theorem Inv.tuple (I : Inv X pins σ H s) (h : SqT X.K H a xs) : ∃ its : List Value, Vals xs its ∧ IsTup s.heap a its.toArray ∧ xs.length ≤ sizeLine := by
  rcases h with h | ⟨o, its, n, hk, hc, hs, hz, r⟩
  · obtain ⟨z, its, r, p⟩ := h.ok I.hok
    exact ⟨its, r, p, z⟩
  · refine ⟨its.toList, r, ⟨o, I.kIn a o hk, hc, n, by simpa using hs⟩, ?_⟩
    have e := r.length
    simp only [Array.length_toList] at e
    omega
theorem Inv.list_inj (I : Inv X pins σ H s) (h : SqL X.K H a xs) (h' : SqL X.K H a ys) : xs = ys := by
  obtain ⟨its, r, ⟨o, n, e, _, _, d⟩, _⟩ := I.list h
  obtain ⟨its', r', ⟨o', n', e', _, _, d'⟩, _⟩ := I.list h'
  rw [e] at e'; cases e'
  rw [d] at d'
  injection d' with d1 _
  have : its = its' := by simpa using congrArg Array.toList d1
  subst this
  exact r.inj r'
theorem Inv.tuple_inj (I : Inv X pins σ H s) (h : SqT X.K H a xs) (h' : SqT X.K H a ys) : xs = ys := by
  obtain ⟨its, r, ⟨o, e, _, n, d⟩, _⟩ := I.tuple h
  obtain ⟨its', r', ⟨o', e', _, n', d'⟩, _⟩ := I.tuple h'
  rw [e] at e'; cases e'
  rw [d] at d'
  injection d' with d1 _
  have : its = its' := by simpa using congrArg Array.toList d1
  subst this
  exact r.inj r'
end
abbrev Cx.wish (X : Cx) (E : Value → Shared → Prop) : Cx := { X with xe := E }
abbrev Cx.nox (X : Cx) : Cx := X.wish fun _ _ => False
theorem Cx.Ok.wish {X : Cx} (ok : X.Ok) (E : Value → Shared → Prop) : (X.wish E).Ok :=
  ⟨ok.mod, ok.kind, ok.glob, ok.blt, ok.above, ok.inj, ok.has, ok.cab, ok.hd, ok.frames, ok.stk, ok.exf, ok.bs, ok.bsz, ok.noex, ok.exfs, ok.funs, ok.frf⟩
theorem Cx.Ok.unwish {X : Cx} {E : Value → Shared → Prop} (ok : (X.wish E).Ok) : X.Ok :=
  ⟨ok.mod, ok.kind, ok.glob, ok.blt, ok.above, ok.inj, ok.has, ok.cab, ok.hd, ok.frames, ok.stk, ok.exf, ok.bs, ok.bsz, ok.noex, ok.exfs, ok.funs, ok.frf⟩
section
variable {X : Cx} {pins : List (Addr × Obj)} {σ : St} {H : Hp} {s : Shared} {E : Value → Shared → Prop}
theorem Inv.wish (I : Inv X pins σ H s) (E : Value → Shared → Prop) : Inv (X.wish E) pins σ H s := ⟨I.ok.wish E, I.os, I.bare, I.base, I.loc, I.cell, I.free, I.freeC, I.pin, I.hok, I.len⟩
theorem Inv.unwish (I : Inv (X.wish E) pins σ H s) : Inv X pins σ H s := ⟨I.ok.unwish, I.os, I.bare, I.base, I.loc, I.cell, I.free, I.freeC, I.pin, I.hok, I.len⟩
theorem SP.unwish {D : Ends} {f : Flow} {s' : Shared} (h : SP (X.wish E) pins D f s') : SP X pins D f s' := by
  cases f with
  | next => obtain ⟨σ', H', I, q⟩ := h; exact ⟨σ', H', I.unwish, q⟩
  | brk => obtain ⟨σ', H', I, q⟩ := h; exact ⟨σ', H', I.unwish, q⟩
  | cont => obtain ⟨σ', H', I, q⟩ := h; exact ⟨σ', H', I.unwish, q⟩
  | ret u => obtain ⟨v, σ', H', I, r, q⟩ := h; exact ⟨v, σ', H', I.unwish, r, q⟩
theorem PE.nox {e : Expr} {t : TE} (h : PE X.nox e t) : PE X e t := fun pins s σ H Q I hw =>
  wpAny_mono (h pins s σ H Q (I.wish _) hw) (fun _ _ ⟨v, H', I', r, q⟩ => ⟨v, H', I'.unwish, r, q⟩) fun _ _ z => False.elim z
theorem PT.nox {e : Expr} {t : TT} (h : PT X.nox e t) : PT X e t := fun pins s σ H Q I hw =>
  wpAny_mono (h pins s σ H Q (I.wish _) hw) (fun _ _ ⟨H', I', q⟩ => ⟨H', I'.unwish, q⟩) fun _ _ z => False.elim z
theorem PSs.nox {st : List Stmt} {t : TS} (h : PSs X.nox st t) : PSs X st t := fun pins s σ H D I hw =>
  wpAny_mono (h pins s σ H D (I.wish _) hw) (fun _ _ q => q.unwish) fun _ _ z => False.elim z
end
section
variable {X : Cx} {st : Stmt} {rest : List Stmt} {t u : TS} {e : Expr} {te : TE} {pos : Pos}
def tNext : TS := fun D σ H => D.nx σ H
def tSeq (t u : TS) : TS := fun D σ H => t { D with nx := u D } σ H
theorem pss_nil : PSs X [] tNext := fun _ _ σ H _ I h => wpAny_execs_nil ⟨σ, H, I, h⟩
theorem pss_cons (h1 : PS X st t) (h2 : PSs X rest u) : PSs X (st :: rest) (tSeq t u) := by
  intro pins s σ H D I h
  refine wpAny_execs_cons (thn (h1 pins s σ H { D with nx := u D } I h) fun f s1 q => ?_)
  cases f with
  | next =>
    obtain ⟨σ', H', I', q⟩ := q
    exact h2 pins s1 σ' H' D I' q
  | ret v => exact q
  | brk => exact q
  | cont => exact q
theorem pss_one (h1 : PS X st t) : PSs X [st] t := by
  intro pins s σ H D I h
  refine wpAny_execs_cons (thn (h1 pins s σ H D I h) fun f s1 q => ?_)
  cases f with
  | next => exact wpAny_execs_nil q
  | ret v => exact q
  | brk => exact q
  | cont => exact q
def tBreak : TS := fun D σ H => D.bk σ H
def tCont : TS := fun D σ H => D.ct σ H
theorem ps_pass : PS X (.Pass pos) tNext := fun _ _ σ H _ I h => wpAny_Pass ⟨σ, H, I, h⟩
theorem ps_break : PS X (.Break pos) tBreak := fun _ _ σ H _ I h => wpAny_Break ⟨σ, H, I, h⟩
theorem ps_continue : PS X (.Continue pos) tCont := fun _ _ σ H _ I h => wpAny_Continue ⟨σ, H, I, h⟩
theorem Inv.quiet {pins : List (Addr × Obj)} {σ : St} {H : Hp} {s : Shared} (I : Inv X pins σ H s) : interactive X.env = false := by simp [interactive, I.ok.kind]
theorem ps_doc {x j pos pos'} : PS X (.Expr (.Constant (.str x) j pos) pos') tNext := fun _ s σ H _ I h => wpAny_Expr (Calls.Constant_str (show SP X _ _ .next { s with toks := s.toks + 1 } from ⟨σ, H, I.tok _, h⟩)) I.quiet
def tDrop (te : TE) : TS := fun D σ H => te σ H fun _ H1 => D.nx σ H1
theorem ps_expr (he : PE X e te) (hs : swapsWith e none pos.line X.env = pure false := by rfl) : PS X (.Expr e pos) (tDrop te) := by
  intro pins s σ H D I h
  exact wpAny_Expr_any (thn (he pins s σ H _ I h) fun v s1 ⟨x, H1, I1, r1, q1⟩ => ⟨σ, H1, I1, q1⟩) I.quiet hs
def tRet (te : TE) : TS := fun D σ H => te σ H D.rt
theorem ps_ret (he : PE X e te) : PS X (.Return (some e) pos) (tRet te) := by
  intro pins s σ H D I h
  exact wpAny_Return_some (thn (he pins s σ H _ I h) fun v s1 ⟨x, H1, I1, r1, q1⟩ => ⟨x, σ, H1, I1, r1, q1⟩)
def tRetN : TS := fun D _ H => D.rt .non H
theorem ps_retN : PS X (.Return none pos) tRetN := fun _ _ σ H _ I h => wpAny_Return_none ⟨.non, σ, H, I, rfl, h⟩
def tIfS (c : TT) (t u : TS) : TS := fun D σ H => c σ H fun b H1 => if b = true then t D σ H1 else u D σ H1
theorem ps_if {c : Expr} {a b : List Stmt} {tc : TT} (hc : PT X c tc) (ha : PSs X a t) (hb : PSs X b u) : PS X (.If c a b pos) (tIfS tc t u) := by
  intro pins s σ H D I h
  refine wpAny_If (thn (hc pins s σ H _ I h) fun d s1 ⟨H1, I1, q1⟩ => ?_)
  cases d with
  | true => exact ha pins s1 σ H1 D I1 q1
  | false => exact hb pins s1 σ H1 D I1 q1
def tNever : TS := fun _ _ _ => False
theorem ps_never : PS X st tNever := fun _ _ _ _ _ _ h => h.elim
theorem pss_never {sts : List Stmt} : PSs X sts tNever := fun _ _ _ _ _ _ h => h.elim
end
abbrev TG := V → St → Hp → (St → Hp → Prop) → Prop
abbrev TGs := List V → St → Hp → (St → Hp → Prop) → Prop
def PG (X : Cx) (target : Expr) (t : TG) : Prop :=
  ∀ (pins : List (Addr × Obj)) (s : Shared) (σ : St) (H : Hp) (v : V) (u : Value) (Q : St → Hp → Prop), Inv X pins σ H s → RelV v u → t v σ H Q →
    wpAny (model X.prog X.w) X.A (assign target X.env u) (fun _ s' => ∃ σ' H', Inv X pins σ' H' s' ∧ Q σ' H') X.xe s
def PGs (X : Cx) (ts : List Expr) (t : TGs) : Prop :=
  ∀ (pins : List (Addr × Obj)) (s : Shared) (σ : St) (H : Hp) (vs : List V) (us : List Value) (Q : St → Hp → Prop), Inv X pins σ H s → Vals vs us → t vs σ H Q →
    wpAny (model X.prog X.w) X.A (assignInOrder ((assignEach ts X.env).map (·.2)) us) (fun _ s' => ∃ σ' H', Inv X pins σ' H' s' ∧ Q σ' H') X.xe s
abbrev TSet := V → V → V → Hp → (Hp → Prop) → Prop
def PSet (X : Cx) (t : TSet) : Prop :=
  ∀ (pins : List (Addr × Obj)) (s : Shared) (σ : St) (H : Hp) (o i v : V) (ov iv u : Value) (Q : Hp → Prop), Inv X pins σ H s → RelV o ov → RelV i iv → RelV v u → t o i v H Q →
    wpAny (model X.prog X.w) X.A (setItem ov iv u) (fun _ s' => ∃ H', Inv X pins σ H' s' ∧ Q H') X.xe s
abbrev TIp := V → V → Hp → VK → Prop
def PIp (X : Cx) (op : Operator) (t : TIp) : Prop :=
  ∀ (pins : List (Addr × Obj)) (s : Shared) (σ : St) (H : Hp) (x y : V) (v u : Value) (Q : VK), Inv X pins σ H s → RelV x v → RelV y u → t x y H Q →
    wpAny (model X.prog X.w) X.A (inplaceOp op v u) (EP X pins σ Q) X.xe s
section
variable {X : Cx} {pos : Pos}
def gName (i : Nat) : TG := fun v σ H Q => Q (σ.set i (some v)) H
theorem pg_name {i : Nat} {x : Str} (hN : X.N.Nodup) (hi : X.N[i]? = some x) (hx : Loc X.env.scope x) (hf : X.fn x = true ∨ X.env.scope.names.lookup x = some .local := by first | exact .inl rfl | exact .inr rfl | assumption) : PG X (.Name x pos) (gName i) := by
  intro pins s σ H v u Q I r h
  exact wpAny_assign_Name (store_ok I hN hi hx r (fun s' I' => ⟨_, H, I', h⟩) hf)
def gNil : TGs := fun vs σ H Q => vs = [] ∧ Q σ H
def gCons (t : TG) (u : TGs) : TGs := fun vs σ H Q => ∃ v r, vs = v :: r ∧ t v σ H fun σ' H' => u r σ' H' Q
theorem pgs_nil : PGs X [] gNil := by
  intro pins s σ H vs us Q I r h
  obtain ⟨e, h⟩ := h
  subst e
  cases r
  exact assignInOrder_nil ⟨σ, H, I, h⟩
theorem pgs_cons {e : Expr} {es : List Expr} {t : TG} {u : TGs} (h1 : PG X e t) (h2 : PGs X es u)
    (hs : (assignEach (e :: es) X.env).map (·.2) = assign e X.env :: (assignEach es X.env).map (·.2) := by rfl) : PGs X (e :: es) (gCons t u) := by
  intro pins s σ H vs us Q I r h
  obtain ⟨v, vr, e1, h⟩ := h
  subst e1
  cases r with
  | cons r rr =>
    rw [hs]
    refine assignInOrder_cons (thn (h1 pins s σ H _ _ _ I r h) fun _ s1 ⟨σ1, H1, I1, q1⟩ => ?_)
    exact h2 pins s1 σ1 H1 _ _ Q I1 rr q1
def gTup (K : PySem.W.Frag) (n : Nat) (t : TGs) : TG := fun v σ H Q => ∃ a xs, v = .ref a ∧ SqT K H a xs ∧ xs.length = n ∧ t xs σ H Q
theorem pg_tup {es : List Expr} {k : Nat} {t : TGs} {n : Nat} (hc : X.calm = true) (h : PGs X es t)
    (hn : (assignEach es X.env).length = n := by rfl) (hst : (assignEach es X.env).findIdx? (·.1) = none := by rfl) : PG X (.Tuple es k pos) (gTup X.K n t) := by
  intro pins s σ H v u Q I r hw
  obtain ⟨a, xs, e1, hq, hl, hw⟩ := hw
  subst e1
  cases r
  obtain ⟨its, rv, ht, hz⟩ := I.tuple hq
  refine assign_Tuple_tuple (I.ok.hd hc) ht (by simp [hn, ← hl, rv.length]) hst fun h' hx => ?_
  have I1 : Inv X pins σ H { s with heap := h' } := I.kept (t' := s.toks) fun b o e => hx b o (Nat.ne_of_lt (Heap.lt_size e)) e
  exact h pins _ σ H xs _ Q I1 (by simpa using rv) hw
def gSub (to ti : TE) (t : TSet) : TG := fun v σ H Q => to σ H fun o H1 => ti σ H1 fun i H2 => t o i v H2 fun H3 => Q σ H3
theorem pg_sub {o i : Expr} {to ti : TE} {t : TSet} (ho : PE X o to) (hi : PE X i ti) (hs : PSet X t)
    (ha : ∀ v, assign (.Subscript o i pos) X.env v = (do
      let ov ← holding [v] (eval o X.env)
      let iv ← holding [v, ov] (eval i X.env)
      standAt pos
      holding [v, ov, iv] (setItem ov iv v)
      release [v, ov, iv] []) := by intro _; rfl) : PG X (.Subscript o i pos) (gSub to ti t) := by
  intro pins s σ H v u Q I r h
  rw [ha]
  refine wpAny_bind (wpAny_holding (thn (ho pins s σ H _ I h) fun ov s1 ⟨x, H1, I1, r1, q1⟩ => ?_))
  refine wpAny_bind (wpAny_holding (thn (hi pins s1 σ H1 _ I1 q1) fun iv s2 ⟨y, H2, I2, r2, q2⟩ => ?_))
  refine wpAny_bind (wpAny_standAt (wpAny_bind (wpAny_holding (thn (hs pins s2 σ H2 x y v ov iv u _ I2 r1 r2 r q2) fun _ s3 ⟨H3, I3, q3⟩ => ?_))))
  exact wpAny_release ⟨σ, H3, I3, q3⟩
def tAsg (te : TE) (g : TG) : TS := fun D σ H => te σ H fun x H1 => g x σ H1 D.nx
theorem ps_asg {tg e : Expr} {te : TE} {g : TG} (he : PE X e te) (hg : PG X tg g) (hs : swapsWithSole [tg] e pos.line X.env = pure false := by rfl) (hw : swappedStores [tg] e X.env = pure none := by rfl)
    (h1 : (assignEach [tg] X.env).map (·.2) = [assign tg X.env] := by rfl) : PS X (.Assign [tg] e pos) (tAsg te g) := by
  intro pins s σ H D I h
  refine wpAny_Assign_stores (thn (he pins s σ H _ I h) fun v s1 ⟨x, H1, I1, r1, q1⟩ => ?_) hs hw
  rw [h1]
  exact thn (hg pins s1 σ H1 x v _ I1 r1 q1) fun _ s2 q => q
theorem ps_set {i : Nat} {x : Str} {e : Expr} {te : TE} {pos' : Pos} (hN : X.N.Nodup) (hi : X.N[i]? = some x) (hx : Loc X.env.scope x) (he : PE X e te) (hs : swapsWith e (some (.Name x pos')) pos.line X.env = pure false := by rfl) (hf : X.fn x = true ∨ X.env.scope.names.lookup x = some .local := by first | exact .inl rfl | exact .inr rfl | assumption) :
    PS X (.Assign [.Name x pos'] e pos) (tAsg te (gName i)) := by
  intro pins s σ H D I h
  refine wpAny_Assign_Name (thn (he pins s σ H _ I h) fun v s1 ⟨y, H1, I1, r1, q1⟩ => ?_) hs
  exact store_ok I1 hN hi hx r1 (fun s2 I2 => ⟨_, H1, I2, q1⟩) hf
def tPar (i j : Nat) (ta : TA) : TS := fun D σ H => ta σ H fun vs H1 => ∃ v w, vs = [v, w] ∧ D.nx ((σ.set i (some v)).set j (some w)) H1
theorem ps_par {i j : Nat} {x y : Str} {a b : Expr} {ta : TA} {px py pt : Pos} {kt k2 pt2} (hc : X.calm = true) (hN : X.N.Nodup) (hi : X.N[i]? = some x) (hj : X.N[j]? = some y) (hij : i ≠ j)
    (hx : X.env.scope.names.lookup x = some .local) (hy : X.env.scope.names.lookup y = some .local) (ha : PA X [a, b] ta)
    (hw : swappedStores [.Tuple [.Name x px, .Name y py] kt pt] (.Tuple [a, b] k2 pt2) X.env = pure (some [x, y]))
    (hs : swapsWithSole [.Tuple [.Name x px, .Name y py] kt pt] (.Tuple [a, b] k2 pt2) pos.line X.env = pure false := by rfl) :
    PS X (.Assign [.Tuple [.Name x px, .Name y py] kt pt] (.Tuple [a, b] k2 pt2) pos) (tPar i j ta) := by
  intro pins s σ H D I h
  rw [exec_Assign_arm]
  refine wpAny_bind (wpAny_standAt ?_)
  rw [hs]
  refine wpAny_bind (wpAny_pure ?_)
  rw [if_neg (by decide)]
  refine wpAny_bind (Tuple_ (thn (ha _ pins s σ H _ I h) fun us s1 ⟨vs, H1, I1, r1, q1⟩ => ?_))
  obtain ⟨v, w, e1, q1⟩ := q1
  subst e1
  obtain ⟨u1, u2, rfl, rv, rw'⟩ : ∃ u1 u2, us = [u1, u2] ∧ RelV v u1 ∧ RelV w u2 := by
    cases r1 with
    | cons p q =>
      cases q with
      | cons p' q' =>
        cases q'
        exact ⟨_, _, rfl, p, p'⟩
  refine wpAny_newObj_type ?_ (by show 2 ≤ sizeLine; decide)
  have I2 : Inv X pins σ H1 { s1 with heap := s1.heap.push { cls := .type "tuple", data := .seq [u1, u2].toArray } } := I1.kept (t' := s1.toks) fun b o e => Heap.get?_push_of_some _ e
  rw [hw]
  refine wpAny_bind (wpAny_pure ?_)
  show wpAny (model X.prog X.w) X.A (do rule "assign.swapped-stores"; let items ← unpackItems (.ref s1.heap.objs.size) 2 none; assignInOrder [fun v => bindName X.env y v, fun v => bindName X.env x v] items.reverse; pure Flow.next) _ _ _
  refine wpAny_bind (wpAny_rule (wpAny_bind (unpackItems_tuple (items := #[u1, u2]) (I.ok.hd hc) (IsTup.new s1.heap _) fun h' hx' => ?_)))
  have I3 := I2.kept (h' := h') (t' := s1.toks) fun b o e => hx' b o (Nat.ne_of_lt (Heap.lt_size e)) e
  show wpAny _ _ (assignInOrder [fun v => bindName X.env y v, fun v => bindName X.env x v] [u2, u1] >>= fun _ => pure Flow.next) _ _ _
  refine wpAny_bind (assignInOrder_cons (wpAny_bindName (store_ok I3 hN hj (.inl hy) rw' (fun s2 I4 => ?_) (.inr hy))))
  refine assignInOrder_cons (wpAny_bindName (store_ok I4 hN hi (.inl hx) rv (fun s3 I5 => assignInOrder_nil (wpAny_pure ?_)) (.inr hx)))
  rw [List.set_comm _ _ (Ne.symm hij)] at I5
  exact ⟨_, H1, I5, q1⟩
def tAug (i : Nat) (te : TE) (ti : TIp) : TS := fun D σ H => ∃ x, σ[i]? = some (some x) ∧ te σ H fun y H1 => ti x y H1 fun z H2 => D.nx (σ.set i (some z)) H2
theorem ps_aug {i : Nat} {x : Str} {e : Expr} {te : TE} {op : Operator} {ti : TIp} {pos' : Pos} (hN : X.N.Nodup) (hi : X.N[i]? = some x) (hx : Loc X.env.scope x) (he : PE X e te) (ho : PIp X op ti) (hf : X.fn x = true ∨ X.env.scope.names.lookup x = some .local := by first | exact .inl rfl | exact .inr rfl | assumption) :
    PS X (.AugAssign (.Name x pos') op e pos) (tAug i te ti) := by
  intro pins s σ H D I h
  obtain ⟨v, e1, h⟩ := h
  obtain ⟨m, hn, hl⟩ := I.loc
  have vis : Vis X.env.scope x := by rcases hx with k | k; exact .inl k; exact .inr (.inl k)
  obtain ⟨u, r, l⟩ := hl i x v hi e1 vis
  refine wpAny_AugAssign_Name ?_
  have go : wpAny (model X.prog X.w) X.A (eval e X.env) (fun w s₂ => wpAny (model X.prog X.w) X.A (inplaceOp op u w) (fun r s₃ => wpAny (model X.prog X.w) X.A (storeName X.env x r) (fun _ => SP X pins D .next) X.xe s₃) X.xe s₂) X.xe s := by
    refine thn (he pins s σ H _ I h) fun w s1 ⟨y, H1, I1, r1, q1⟩ => ?_
    refine thn (ho pins s1 σ H1 v y u w _ I1 r r1 q1) fun z s2 ⟨zv, H2, I2, r2, q2⟩ => ?_
    exact store_ok I2 hN hi hx r2 (fun s3 I3 => ⟨_, H2, I3, q2⟩) hf
  rcases l with ⟨hk, hm⟩ | ⟨hk, c, hc, hcell⟩
  · exact wpAny_loadName_local I.ok.kind hk hn hm go
  · rcases hk with hk | hk
    · exact wpAny_loadName_cell I.ok.kind hk hc hcell go
    · rcases hx with k | k
      · have : X.env.scope.names.lookup x = some .free := hk
        rw [k] at this; cases this
      · have : X.env.scope.names.lookup x = some .free := hk
        rw [k] at this; cases this
def tAugS (to ti te : TE) (tget : V → V → Hp → VK → Prop) (tip : TIp) (tset : TSet) : TS := fun D σ H => to σ H fun o H1 => ti σ H1 fun i H2 => tget o i H2 fun x H3 => te σ H3 fun y H4 => tip x y H4 fun z H5 => tset o i z H5 fun H6 => D.nx σ H6
def PGet (X : Cx) (t : V → V → Hp → VK → Prop) : Prop :=
  ∀ (pins : List (Addr × Obj)) (s : Shared) (σ : St) (H : Hp) (o i : V) (ov iv : Value) (Q : VK), Inv X pins σ H s → RelV o ov → RelV i iv → t o i H Q →
    wpAny (model X.prog X.w) X.A (getItem ov iv) (EP X pins σ Q) X.xe s
theorem ps_augS {o i e : Expr} {to ti te : TE} {tget : V → V → Hp → VK → Prop} {tip : TIp} {tset : TSet} {op : Operator} {tpos : Pos} (ho : PE X o to) (hi : PE X i ti) (hg : PGet X tget) (he : PE X e te) (hp : PIp X op tip) (hs : PSet X tset)
    (ha : ∀ ov iv new, augStore i ov iv new = (do holding [new, ov, iv] (setItem ov iv new); release [new, ov, iv] []; pure .next) := by intros; rfl) : PS X (.AugAssign (.Subscript o i tpos) op e pos) (tAugS to ti te tget tip tset) := by
  intro pins s σ H D I h
  refine wpAny_AugAssign_SubscriptAny (thn (ho pins s σ H _ I h) fun ov s1 ⟨x1, H1, I1, r1, q1⟩ => ?_) ha
  refine thn (hi pins s1 σ H1 _ I1 q1) fun iv s2 ⟨x2, H2, I2, r2, q2⟩ => ?_
  refine thn (hg pins s2 σ H2 x1 x2 ov iv _ I2 r1 r2 q2) fun old s3 ⟨x3, H3, I3, r3, q3⟩ => ?_
  refine thn (he pins s3 σ H3 _ I3 q3) fun v s4 ⟨x4, H4, I4, r4, q4⟩ => ?_
  refine thn (hp pins s4 σ H4 x3 x4 old v _ I4 r3 r4 q4) fun new s5 ⟨x5, H5, I5, r5, q5⟩ => ?_
  exact thn (hs pins s5 σ H5 x1 x2 x5 ov iv new _ I5 r1 r2 r5 q5) fun _ s6 ⟨H6, I6, q6⟩ => ⟨σ, H6, I6, q6⟩
def ipI (f : Int → Int → Int) : TIp := fun x y H Q => ∃ i j, x = .int i ∧ y = .int j ∧ Q (.int (f i j)) H
theorem ip_add : PIp X .Add (ipI fun i j => i + j) := by
  intro pins s σ H x y v u Q I r1 r2 h
  obtain ⟨i, j, e1, e2, q⟩ := h
  subst e1; subst e2
  obtain ⟨t, rfl⟩ := r1
  obtain ⟨t', rfl⟩ := r2
  exact iadd_int ⟨.int _, H, I.tok _, ⟨_, rfl⟩, q⟩
theorem ip_sub : PIp X .Sub (ipI fun i j => i - j) := by
  intro pins s σ H x y v u Q I r1 r2 h
  obtain ⟨i, j, e1, e2, q⟩ := h
  subst e1; subst e2
  obtain ⟨t, rfl⟩ := r1
  obtain ⟨t', rfl⟩ := r2
  exact isub_int ⟨.int _, H, I.tok _, ⟨_, rfl⟩, q⟩
end
section
variable {X : Cx} {pos : Pos}
def tWhile (c : TT) (tb : TS) : TS := fun D σ H => ∃ W : Nat → St → Hp → Prop, (∃ m, W m σ H) ∧ ∀ m σ H, W m σ H →
  c σ H fun b H1 => if b = true then ∃ N : St → Hp → Prop, (∀ σ' H', N σ' H' → ∃ m', m' < m ∧ W m' σ' H') ∧ tb { D with nx := N, ct := N, bk := D.nx } σ H1 else D.nx σ H1
theorem ps_while {c : Expr} {body : List Stmt} {tc : TT} {tb : TS} (hp : PassesOwn (model X.prog X.w) X.A X.env X.xe) (hc : PT X c tc) (hb : PSs X body tb) : PS X (.While c body [] pos) (tWhile tc tb) := by
  intro pins s σ H D I h
  obtain ⟨W, ⟨m0, w0⟩, turn⟩ := h
  refine wpAny_While (codeAny_whileLoop (fun n s' => ∃ σ' H', Inv X pins σ' H' s' ∧ W n σ' H') ?_ m0 ⟨σ, H, I, w0⟩)
  rintro n s1 ⟨σ1, H1, I1, w1⟩
  refine wpAny_passesOwn hp (thn (hc pins s1 σ1 H1 _ I1 (turn n σ1 H1 w1)) fun b s2 ⟨H2, I2, q2⟩ => ?_)
  cases b with
  | true =>
    obtain ⟨N, hN, q2⟩ := q2
    rw [if_pos rfl]
    refine wpAny_passesOwn hp (thn (hb pins s2 σ1 H2 _ I2 q2) fun f s3 q3 => ?_)
    cases f with
    | next =>
      obtain ⟨σ3, H3, I3, n3⟩ := q3
      obtain ⟨m', hm, w3⟩ := hN σ3 H3 n3
      exact ⟨m', hm, σ3, H3, I3, w3⟩
    | cont =>
      obtain ⟨σ3, H3, I3, n3⟩ := q3
      obtain ⟨m', hm, w3⟩ := hN σ3 H3 n3
      exact ⟨m', hm, σ3, H3, I3, w3⟩
    | brk => exact q3
    | ret v => exact q3
  | false =>
    rw [if_neg Bool.false_ne_true]
    exact wpAny_execs_nil ⟨σ1, H2, I2, q2⟩
end
structure It where
  go : Nat → Hp → Prop
  yld : Nat → Hp → V → Hp → Prop
  stop : Nat → Hp → Prop
def FpOk (X : Cx) (pins : List (Addr × Obj)) (H : Hp) (b : Addr) : Prop :=
  H b = none ∧ b ≠ X.env.locals ∧ b ∉ X.fs ∧ (b ∈ X.ex ∨ X.s₀.heap.objs.size ≤ b) ∧ (∀ x c, X.env.cells.lookup x = some c → c ≠ b) ∧ ∀ p ∈ X.pn ++ pins, p.1 ≠ b
theorem Inv.fpOk {X : Cx} {pins : List (Addr × Obj)} {σ : St} {H H' : Hp} {s : Shared} {b : Addr} (I : Inv X pins σ H s) (hb : s.heap.objs.size ≤ b) (hn : H' b = none) : FpOk X pins H' b := by
  refine ⟨hn, Nat.ne_of_gt (Nat.lt_of_lt_of_le I.lt hb), I.nofs hb, .inr (Nat.le_trans I.sz hb), fun x c e z => ?_, fun p hp z => ?_⟩
  · obtain ⟨v, q⟩ := I.cell x c e
    exact absurd (Nat.lt_of_lt_of_le q.lt (by rw [z]; exact hb)) (Nat.lt_irrefl _)
  · exact absurd (Nat.lt_of_lt_of_le (Heap.lt_size (I.pin p hp).1) (by rw [z]; exact hb)) (Nat.lt_irrefl _)
structure Turn (P : Program) (w : World) (K : PySem.W.Frag) (tg : Expr) (J : It) (fp : List Addr) (it : Addr) (tn : Nat → Heap → Prop) : Prop where
  mem : it ∈ fp
  obj : ∀ i h, tn i h → ∀ b ∈ fp, ∃ o, h.get? b = some o ∧ ∀ v, o.data ≠ .cell v
  keep : ∀ i h h', tn i h → (∀ b ∈ fp, ∀ o, h.get? b = some o → h'.get? b = some o) → tn i h'
  item : ∀ (X : Cx), X.prog = P → X.w = w → X.K = K → X.calm = true → ∀ (i : Nat) (pins : List (Addr × Obj)) (s : Shared) (σ : St) (H : Hp) (E : Value → Shared → Prop), Inv X pins σ H s → (∀ b ∈ fp, FpOk X pins H b) → tn i s.heap → J.go i H →
    wpAny (model P w) X.A (pyNext (.ref it)) (fun r s1 => ∃ u, r = some u ∧
      wpAny (model P w) X.A (letOwnedTupleGo tg (.ref it) u) (fun _ s2 => ∃ x H', Inv X pins σ H' s2 ∧ RelV x u ∧ J.yld i H x H' ∧ tn (i + 1) s2.heap ∧ ∀ b ∈ fp, H' b = none) E s1) E s
  done : ∀ (X : Cx), X.prog = P → X.w = w → X.K = K → X.calm = true → ∀ (i : Nat) (pins : List (Addr × Obj)) (s : Shared) (σ : St) (H : Hp) (E : Value → Shared → Prop), Inv X pins σ H s → (∀ b ∈ fp, FpOk X pins H b) → tn i s.heap → J.stop i H →
    wpAny (model P w) X.A (pyNext (.ref it)) (fun r s1 => r = none ∧ Inv X pins σ H s1) E s
  self : ∀ (A : Around) (i : Nat) (s : Shared) (Q : Value → Shared → Prop) (E : Value → Shared → Prop), tn i s.heap → Q (.ref it) s → wpAny (model P w) A (pyIter (.ref it)) Q E s
abbrev TI := St → Hp → (It → Hp → Prop) → Prop
def PIE (X : Cx) (pins : List (Addr × Obj)) (σ : St) (tg : Expr) (R : It → Hp → Prop) (itv : Value) (s2 : Shared) : Prop :=
  ∃ (it : Addr) (fp : List Addr) (tn : Nat → Heap → Prop) (J : It) (H' : Hp), itv = .ref it ∧ Inv X pins σ H' s2 ∧ Turn X.prog X.w X.K tg J fp it tn ∧ tn 0 s2.heap ∧ (∀ b ∈ fp, FpOk X pins H' b) ∧ R J H'
def PI (X : Cx) (tg iter : Expr) (wi : TI) : Prop :=
  ∀ (pins : List (Addr × Obj)) (s : Shared) (σ : St) (H : Hp) (R : It → Hp → Prop), Inv X pins σ H s → wi σ H R →
    wpAny (model X.prog X.w) X.A (eval iter X.env) (fun v s1 => wpAny (model X.prog X.w) X.A (pyIter v) (PIE X pins σ tg R) X.xe s1) X.xe s
theorem go_of {M : Model} {A : Around} {E : Value → Shared → Prop} {s : Shared} {tg : Expr} {it : Addr} {u : Value} {o : Obj} {n : String} {vs : Array Value} {Q : Unit → Shared → Prop} (ho : s.heap.get? it = some o) (hc : o.cls = .type n) (hd : o.data = .fields vs)
    (hn : ["enumerate", "zip", "dict_itemiterator", "dict_reverseitemiterator", "odict_iterator", "itertools.zip_longest", "itertools.pairwise"].contains n = false) (hQ : Q () s) : wpAny M A (letOwnedTupleGo tg (.ref it) u) Q E s := by
  unfold letOwnedTupleGo
  cases tg <;> first
    | exact wpAny_pure hQ
    | (cases u <;> first
        | exact wpAny_pure hQ
        | (refine wpAny_bind (wpAny_load ho ?_)
           rw [hc, hd]
           show wpAny M A (if (["enumerate", "zip", "dict_itemiterator", "dict_reverseitemiterator", "odict_iterator", "itertools.zip_longest", "itertools.pairwise"].contains n && vs[0]? == some (rawInt _)) = true then _ else _) Q E s
           rw [if_neg (by intro h; rw [hn, Bool.false_and] at h; cases h)]
           exact wpAny_pure hQ))
def Itl (K : PySem.W.Frag) (a : Addr) : It :=
  ⟨fun i H => ∃ xs x, SqL K H a xs ∧ xs[i]? = some x, fun i H x H' => H' = H ∧ ∀ xs, SqL K H a xs → xs[i]? = some x, fun i H => ∃ xs, SqL K H a xs ∧ xs.length ≤ i⟩
def Itt (K : PySem.W.Frag) (a : Addr) : It :=
  ⟨fun i H => ∃ xs x, SqT K H a xs ∧ xs[i]? = some x, fun i H x H' => H' = H ∧ ∀ xs, SqT K H a xs → xs[i]? = some x, fun i H => ∃ xs, SqT K H a xs ∧ xs.length ≤ i⟩
def Itr (lo : Int) (n : Nat) : It := ⟨fun i _ => i < n, fun i H x H' => H' = H ∧ x = .int (lo + i), fun i _ => n ≤ i⟩
theorem turn_list {P : Program} {w : World} {K : PySem.W.Frag} {tg : Expr} (a it : Addr) : Turn P w K tg (Itl K a) [it] it (fun i h => h.IsListIter it a i) where
  mem := by simp
  obj := fun i h st b hb => by
    have e : b = it := by simpa using hb
    subst e
    obtain ⟨o, e, c, d⟩ := st
    exact ⟨o, e, fun v z => by rw [d] at z; cases z⟩
  keep := fun i h h' st k => st.at fun o e => k it (by simp) o e
  item := by
    intro X hP hw hK hc i pins s σ H E I hf st hg
    subst hP hw hK
    obtain ⟨xs, x, hq, hx⟩ := hg
    obtain ⟨its, rv, p, hz⟩ := I.list hq
    obtain ⟨u, hu, ru⟩ := rv.get hx
    obtain ⟨f0, f1, f2, f3, f4, f5⟩ := hf it (by simp)
    refine wpAny_pyNext_list_item st p.isList (x := u) (by simpa using hu) fun h' st' sb => ?_
    have I1 : Inv X pins σ H { s with heap := h' } := I.turned (t' := s.toks) (fun b o hb e => (sb.2 b hb).trans e) f0 f1 f3 f4 f5
    obtain ⟨o, e, c, d⟩ := id st'
    exact ⟨u, rfl, go_of (s := { s with heap := h' }) e c d (by decide) ⟨x, H, I1, ru, ⟨rfl, fun ys hy => by rw [I.list_inj hy hq]; exact hx⟩, st', fun b hb => (hf b hb).1⟩⟩
  done := by
    intro X hP hw hK hc i pins s σ H E I hf st hg
    subst hP hw hK
    obtain ⟨xs, hq, hx⟩ := hg
    obtain ⟨its, rv, p, hz⟩ := I.list hq
    obtain ⟨f0, f1, f2, f3, f4, f5⟩ := hf it (by simp)
    have hl := rv.length
    exact wpAny_pyNext_list_end (I.ok.hd hc) st p.isList (by simp; omega) fun h' eb => ⟨rfl, I.turned (t' := s.toks) (fun b o hb e => eb b o hb e) f0 f1 f3 f4 f5⟩
  self := fun _ _ _ _ _ st h => wpAny_pyIter_listiter st h
theorem turn_tuple {P : Program} {w : World} {K : PySem.W.Frag} {tg : Expr} (a it : Addr) : Turn P w K tg (Itt K a) [it] it (fun i h => h.IsTupleIter it a i) where
  mem := by simp
  obj := fun i h st b hb => by
    have e : b = it := by simpa using hb
    subst e
    obtain ⟨o, e, c, d⟩ := st
    exact ⟨o, e, fun v z => by rw [d] at z; cases z⟩
  keep := fun i h h' st k => st.at fun o e => k it (by simp) o e
  item := by
    intro X hP hw hK hc i pins s σ H E I hf st hg
    subst hP hw hK
    obtain ⟨xs, x, hq, hx⟩ := hg
    obtain ⟨its, rv, p, hz⟩ := I.tuple hq
    obtain ⟨u, hu, ru⟩ := rv.get hx
    obtain ⟨f0, f1, f2, f3, f4, f5⟩ := hf it (by simp)
    refine wpAny_pyNext_tuple_item st (show s.heap.IsTuple a its.toArray from p) (x := u) (by simpa using hu) fun h' st' sb => ?_
    have I1 : Inv X pins σ H { s with heap := h' } := I.turned (t' := s.toks) (fun b o hb e => (sb.2 b hb).trans e) f0 f1 f3 f4 f5
    obtain ⟨o, e, c, d⟩ := id st'
    exact ⟨u, rfl, go_of (s := { s with heap := h' }) e c d (by decide) ⟨x, H, I1, ru, ⟨rfl, fun ys hy => by rw [I.tuple_inj hy hq]; exact hx⟩, st', fun b hb => (hf b hb).1⟩⟩
  done := by
    intro X hP hw hK hc i pins s σ H E I hf st hg
    subst hP hw hK
    obtain ⟨xs, hq, hx⟩ := hg
    obtain ⟨its, rv, p, hz⟩ := I.tuple hq
    obtain ⟨f0, f1, f2, f3, f4, f5⟩ := hf it (by simp)
    have hl := rv.length
    exact wpAny_pyNext_tuple_end (I.ok.hd hc) st (show s.heap.IsTuple a its.toArray from p) (by simp; omega) fun h' eb => ⟨rfl, I.turned (t' := s.toks) (fun b o hb e => eb b o hb e) f0 f1 f3 f4 f5⟩
  self := fun _ _ _ _ _ st h => wpAny_pyIter_tupleiter st h
theorem turn_range {P : Program} {w : World} {K : PySem.W.Frag} {tg : Expr} (it : Addr) (lo : Int) (n : Nat) : Turn P w K tg (Itr lo n) [it] it (fun i h => IsRangeIter h it (lo + (i : Nat) * 1) ((n : Int) - (i : Nat)) 1) where
  mem := by simp
  obj := fun i h st b hb => by
    have e : b = it := by simpa using hb
    subst e
    exact ⟨_, st, fun v z => by
      have z' : Data.fields _ = Data.cell v := z
      cases z'⟩
  keep := fun i h h' st k => k it (by simp) _ st
  item := by
    intro X hP hw hK hc i pins s σ H E I hf st hg
    subst hP hw hK
    obtain ⟨f0, f1, f2, f3, f4, f5⟩ := hf it (by simp)
    have W := Walks.range (prog := X.prog) (w := X.w) (I.ok.hd hc) it lo 1 n
    refine W.item i s _ _ hg st fun v h' tk hv st' kk => ?_
    obtain ⟨t, rfl⟩ := hv
    have I1 : Inv X pins σ H { s with heap := h', toks := tk } := I.turned (fun b o hb e => kk b o (by simpa using hb) e) f0 f1 f3 f4 f5
    refine ⟨_, rfl, go_of (s := { s with heap := h', toks := tk }) (n := "range_iterator") st' rfl rfl (by decide) ⟨.int (lo + i), H, I1, ⟨t, ?_⟩, ⟨rfl, rfl⟩, st', fun b hb => (hf b hb).1⟩⟩
    rw [Int.mul_one]
  done := by
    intro X hP hw hK hc i pins s σ H E I hf st hg
    subst hP hw hK
    obtain ⟨f0, f1, f2, f3, f4, f5⟩ := hf it (by simp)
    exact wpAny_pyNext_range_end (I.ok.hd hc) st (by have : n ≤ i := hg; omega) fun h' eb => ⟨rfl, I.turned (t' := s.toks) (fun b o hb e => eb b o hb e) f0 f1 f3 f4 f5⟩
  self := fun _ _ _ _ _ st h => wpAny_pyIter_rangeiter st h
end L2
namespace L2
open PySem PySem.Spec PyProof.Rows
section
variable {X : Cx} {tg : Expr}
def iList (K : PySem.W.Frag) (tl : TE) : TI := fun σ H R => tl σ H fun x H1 => ∃ a, x = .ref a ∧ (∃ xs, SqL K H1 a xs) ∧ R (Itl K a) H1
def iTup (K : PySem.W.Frag) (tl : TE) : TI := fun σ H R => tl σ H fun x H1 => ∃ a, x = .ref a ∧ (∃ xs, SqT K H1 a xs) ∧ R (Itt K a) H1
theorem pi_list {l : Expr} {tl : TE} (hl : PE X l tl) : PI X tg l (iList X.K tl) := by
  intro pins s σ H R I h
  refine thn (hl pins s σ H _ I h) fun v s1 ⟨x, H1, I1, r1, q1⟩ => ?_
  obtain ⟨a, e, ⟨xs, hq⟩, q⟩ := q1
  subst e
  cases r1
  obtain ⟨its, rv, p, hz⟩ := I1.list hq
  refine wpAny_pyIter_list p.isList ?_
  refine ⟨s1.heap.objs.size, [s1.heap.objs.size], _, _, H1, rfl, I1.kept (t' := s1.toks) fun b o e => Heap.get?_push_of_some _ e, turn_list a _, ⟨_, Heap.get?_push_size _ rfl, rfl, rfl⟩, fun b hb => ?_, q⟩
  have e : b = s1.heap.objs.size := by simpa using hb
  subst e
  exact I1.fpOk (Nat.le_refl _) (I1.hok.fresh (Nat.le_refl _))
theorem pi_tup {l : Expr} {tl : TE} (hl : PE X l tl) : PI X tg l (iTup X.K tl) := by
  intro pins s σ H R I h
  refine thn (hl pins s σ H _ I h) fun v s1 ⟨x, H1, I1, r1, q1⟩ => ?_
  obtain ⟨a, e, ⟨xs, hq⟩, q⟩ := q1
  subst e
  cases r1
  obtain ⟨its, rv, p, hz⟩ := I1.tuple hq
  refine wpAny_pyIter_tuple (show s1.heap.IsTuple a its.toArray from p) ?_
  refine ⟨s1.heap.objs.size, [s1.heap.objs.size], _, _, H1, rfl, I1.kept (t' := s1.toks) fun b o e => Heap.get?_push_of_some _ e, turn_tuple a _, ⟨_, Heap.get?_push_size _ rfl, rfl, rfl⟩, fun b hb => ?_, q⟩
  have e : b = s1.heap.objs.size := by simpa using hb
  subst e
  exact I1.fpOk (Nat.le_refl _) (I1.hok.fresh (Nat.le_refl _))
theorem range_it {pins : List (Addr × Obj)} {σ : St} {H : Hp} {s : Shared} {R : It → Hp → Prop} {E : Value → Shared → Prop} {lo hi : Int} {t u v : Tok} {tk : Nat} (I : Inv X pins σ H s) (h1 : -(2 ^ 62) ≤ lo) (h2 : lo < 2 ^ 62) (h3 : -(2 ^ 62) ≤ hi) (h4 : hi < 2 ^ 62)
    (q : R (Itr lo (hi - lo).toNat) H) : wpAny (model X.prog X.w) X.A (pyIter (.ref s.heap.objs.size)) (PIE X pins σ tg R) E { s with heap := s.heap.push { cls := .type "range", data := .fields #[.int lo t, .int hi u, .int 1 v] }, toks := tk } := by
  refine wpAny_pyIter_range (IsRange.new ..) (small_one h1 h2 h3 h4) ?_
  have I1 : Inv X pins σ H { s with heap := s.heap.push { cls := .type "range", data := .fields #[.int lo t, .int hi u, .int 1 v] }, toks := tk } := I.kept fun b o e => Heap.get?_push_of_some _ e
  refine ⟨(s.heap.push { cls := .type "range", data := .fields #[.int lo t, .int hi u, .int 1 v] }).objs.size, [(s.heap.push { cls := .type "range", data := .fields #[.int lo t, .int hi u, .int 1 v] }).objs.size], _, _, H, rfl,
    I1.kept (t' := tk) fun b o e => Heap.get?_push_of_some _ e, turn_range _ lo (hi - lo).toNat, ?_, fun b hb => ?_, q⟩
  · have e1 : lo + ((0 : Nat) : Int) * 1 = lo := by simp
    have e2 : (((hi - lo).toNat : Nat) : Int) - ((0 : Nat) : Int) = Builtin.Range.rangeSize lo hi 1 := by rw [rangeSize_one]; split <;> omega
    show IsRangeIter _ _ (lo + ((0 : Nat) : Int) * 1) ((((hi - lo).toNat : Nat) : Int) - ((0 : Nat) : Int)) 1
    rw [e1, e2]
    exact Heap.get?_push_size _ rfl
  · have e : b = (s.heap.push { cls := .type "range", data := .fields #[.int lo t, .int hi u, .int 1 v] }).objs.size := by simpa using hb
    subst e
    exact I1.fpOk (Nat.le_refl _) (I1.hok.fresh (Nat.le_refl _))
def iRng1 (ta : TA) : TI := fun σ H R => ta σ H fun vs H1 => ∃ j : Int, vs = [.int j] ∧ -(2 ^ 62) ≤ j ∧ j < 2 ^ 62 ∧ R (Itr 0 j.toNat) H1
def iRng2 (ta : TA) : TI := fun σ H R => ta σ H fun vs H1 => ∃ i j : Int, vs = [.int i, .int j] ∧ (-(2 ^ 62) ≤ i ∧ i < 2 ^ 62 ∧ -(2 ^ 62) ≤ j ∧ j < 2 ^ 62) ∧ R (Itr i (j - i).toNat) H1
theorem pi_range1 {a : Expr} {ta : TA} {p pos : Pos} (hg : Gl X "range") (hm : X.mg "range" = none) (ha : PA X [a] ta) (hs : starEach [a] X.env = [(false, eval a X.env)] := by rfl) : PI X tg (.Call (.Name "range" p) [a] [] pos) (iRng1 ta) := by
  intro pins s σ H R I h
  refine Call_ (ld_blt I hg hm boot_range (PyProof.Rows.callWith_type1 (thn (ha pos pins s σ H _ I h) fun us s1 ⟨vs, H1, I1, r1, q1⟩ => ?_) hs rfl))
  obtain ⟨j, e, q1, q2, q⟩ := q1
  subst e
  cases r1 with
  | cons r rr =>
    cases rr
    obtain ⟨t, rfl⟩ := r
    exact call_range_1 (range_it I1 (by omega) (by omega) q1 q2 (by simpa using q))
theorem pi_range2 {a b : Expr} {ta : TA} {p pos : Pos} (hg : Gl X "range") (hm : X.mg "range" = none) (ha : PA X [a, b] ta) (hs : starEach [a, b] X.env = [(false, eval a X.env), (false, eval b X.env)] := by rfl) (hs2 : starEach [b] X.env = [(false, eval b X.env)] := by rfl) :
    PI X tg (.Call (.Name "range" p) [a, b] [] pos) (iRng2 ta) := by
  intro pins s σ H R I h
  refine Call_ (ld_blt I hg hm boot_range (PyProof.Rows.callWith_type1 (thn (ha pos pins s σ H _ I h) fun us s1 ⟨vs, H1, I1, r1, q1⟩ => ?_) (by rw [hs, hs2]) (by rw [hs2]; rfl)))
  obtain ⟨i, j, e, ⟨q1, q2, q3, q4⟩, q⟩ := q1
  subst e
  cases r1 with
  | cons r rr =>
    cases rr with
    | cons r' rr =>
      cases rr
      obtain ⟨t, rfl⟩ := r
      obtain ⟨t', rfl⟩ := r'
      exact call_range_2 (range_it I1 q1 q2 q3 q4 q)
def tFor (wi : TI) (g : TG) (tb : TS) : TS := fun D σ H => wi σ H fun J H1 => ∃ W : Nat → Nat → St → Hp → Prop, (∃ m, W 0 m σ H1) ∧ ∀ i m σ H, W i m σ H →
  (J.stop i H ∧ D.nx σ H) ∨ (J.go i H ∧ ∃ N : St → Hp → Prop, (∀ σ' H', N σ' H' → ∃ m', m' < m ∧ W (i + 1) m' σ' H') ∧ ∀ x H', J.yld i H x H' → g x σ H' fun σ2 H2 => tb { D with nx := N, ct := N, bk := D.nx } σ2 H2)
def pinsAt (fp : List Addr) (h : Heap) : List (Addr × Obj) := fp.filterMap fun b => (h.get? b).map fun o => (b, o)
theorem mem_pinsAt {fp : List Addr} {h : Heap} {b : Addr} {o : Obj} (hb : b ∈ fp) (e : h.get? b = some o) : (b, o) ∈ pinsAt fp h := List.mem_filterMap.mpr ⟨b, hb, by rw [e]; rfl⟩
theorem of_pinsAt {fp : List Addr} {h : Heap} {p : Addr × Obj} (hp : p ∈ pinsAt fp h) : p.1 ∈ fp ∧ h.get? p.1 = some p.2 := by
  obtain ⟨b, hb, e⟩ := List.mem_filterMap.mp hp
  cases q : h.get? b with
  | none => rw [q] at e; cases e
  | some o =>
    rw [q] at e
    have e' : (b, o) = p := Option.some.inj e
    subst e'
    exact ⟨hb, q⟩
theorem Inv.pinned {pins : List (Addr × Obj)} {σ : St} {H : Hp} {s : Shared} {fp : List Addr} (I : Inv X pins σ H s) (hf : ∀ b ∈ fp, FpOk X pins H b) (ho : ∀ b ∈ fp, ∃ o, s.heap.get? b = some o ∧ ∀ v, o.data ≠ .cell v) : Inv X (pins ++ pinsAt fp s.heap) σ H s :=
  I.pins_of fun p hp => (List.mem_append.mp hp).elim (fun z => I.pin p (List.mem_append_right _ z)) fun z => by
    obtain ⟨hb, e⟩ := of_pinsAt z
    obtain ⟨f0, f1, f2, _⟩ := hf p.1 hb
    obtain ⟨o, e', d⟩ := ho p.1 hb
    rw [e] at e'; cases e'
    exact ⟨e, f0, f1, f2, d⟩
theorem Inv.unpinned {pins pl : List (Addr × Obj)} {σ : St} {H : Hp} {s : Shared} (I : Inv X (pins ++ pl) σ H s) : Inv X pins σ H s := I.pins_of fun p hp => I.pin p (List.mem_append_right _ (List.mem_append_left _ hp))
theorem ps_for {iter : Expr} {body : List Stmt} {wi : TI} {g : TG} {tb : TS} {pos : Pos} (hp : PassesOwn (model X.prog X.w) X.A X.env X.xe) (hc : X.calm = true) (hi : PI X tg iter wi) (hg : PG X tg g) (hb : PSs X body tb)
    (hs : ∀ x, foldedSetIterable iter X.env x = pure x := by intro _; rfl) : PS X (.For tg iter body [] pos) (tFor wi g tb) := by
  intro pins s σ H D I h
  refine wpAny_For (thn (hi pins s σ H _ I h) fun v s1 h1 => thn h1 fun itv s2 h2 => ?_) hs
  obtain ⟨it, fp, tn, J, H2, e, I2, T, st2, f2, W, ⟨m0, w0⟩, turn⟩ := h2
  subst e
  have stat : ∀ {H' : Hp}, (∀ b ∈ fp, H' b = none) → ∀ b ∈ fp, FpOk X pins H' b := fun hn b hb => ⟨hn b hb, (f2 b hb).2⟩
  refine codeAny_forLoop_any (fun n s' => ∃ i σ' H', Inv X pins σ' H' s' ∧ tn i s'.heap ∧ (∀ b ∈ fp, H' b = none) ∧ W i n σ' H') ?_ m0 ⟨0, σ, H2, I2, st2, fun b hb => (f2 b hb).1, w0⟩
  rintro n s3 ⟨i, σ3, H3, I3, st3, fr3, w3⟩
  rcases turn i n σ3 H3 w3 with ⟨stop, qn⟩ | ⟨go, N, hN, step⟩
  · refine wpAny_passesOwn hp (thn (T.done X rfl rfl rfl hc i pins s3 σ3 H3 X.xe I3 (stat fr3) st3 stop) fun r s4 ⟨hr, I4⟩ => ?_)
    subst hr
    exact wpAny_execs_nil ⟨σ3, H3, I4, qn⟩
  · refine wpAny_passesOwn hp (thn (T.item X rfl rfl rfl hc i pins s3 σ3 H3 X.xe I3 (stat fr3) st3 go) fun r s4 ⟨u, hr, h4⟩ => ?_)
    subst hr
    refine wpAny_passesOwn hp (thn h4 fun _ s5 ⟨x, H5, I5, r5, y5, st5, fr5⟩ => ?_)
    have I5' := I5.pinned (stat fr5) (T.obj _ _ st5)
    refine wpAny_passesOwn hp (thn (hg _ s5 σ3 H5 x u _ I5' r5 (step x H5 y5)) fun _ s6 ⟨σ6, H6, I6, q6⟩ => ?_)
    refine wpAny_passesOwn hp (thn (hb _ s6 σ6 H6 _ I6 q6) fun f s7 q7 => ?_)
    have again : ∀ {σ7 : St} {H7 : Hp}, Inv X (pins ++ pinsAt fp s5.heap) σ7 H7 s7 → N σ7 H7 → ∃ m, m < n ∧ ∃ i σ' H', Inv X pins σ' H' s7 ∧ tn i s7.heap ∧ (∀ b ∈ fp, H' b = none) ∧ W i m σ' H' := fun {σ7 H7} I7 n7 => by
      obtain ⟨m', hm, w7⟩ := hN σ7 H7 n7
      refine ⟨m', hm, i + 1, σ7, H7, I7.unpinned, T.keep _ _ _ st5 fun b hb o e => (I7.pin (b, o) (List.mem_append_right _ (List.mem_append_right _ (mem_pinsAt hb e)))).1, fun b hb => ?_, w7⟩
      obtain ⟨o, e, d⟩ := T.obj _ _ st5 b hb
      exact (I7.pin (b, o) (List.mem_append_right _ (List.mem_append_right _ (mem_pinsAt hb e)))).2.1
    cases f with
    | next => obtain ⟨σ7, H7, I7, n7⟩ := q7; exact again I7 n7
    | cont => obtain ⟨σ7, H7, I7, n7⟩ := q7; exact again I7 n7
    | brk => obtain ⟨σ7, H7, I7, q7⟩ := q7; exact ⟨σ7, H7, I7.unpinned, q7⟩
    | ret v => obtain ⟨x7, σ7, H7, I7, r7, q7⟩ := q7; exact ⟨x7, σ7, H7, I7.unpinned, r7, q7⟩
end
theorem for_list {K : PySem.W.Frag} {a : Addr} {xs : List V} {g : TG} {tb : TS} {D : Ends} {σ : St} {H : Hp} (Pv : Nat → St → Hp → Prop) (h0 : Pv 0 σ H) (hl : ∀ i σ H, i ≤ xs.length → Pv i σ H → SqL K H a xs)
    (hs : ∀ i x σ H, xs[i]? = some x → Pv i σ H → g x σ H fun σ2 H2 => tb { D with nx := Pv (i + 1), ct := Pv (i + 1), bk := D.nx } σ2 H2) (hd : ∀ σ H, Pv xs.length σ H → D.nx σ H) :
    ∃ W : Nat → Nat → St → Hp → Prop, (∃ m, W 0 m σ H) ∧ ∀ i m σ H, W i m σ H →
      ((Itl K a).stop i H ∧ D.nx σ H) ∨ ((Itl K a).go i H ∧ ∃ N : St → Hp → Prop, (∀ σ' H', N σ' H' → ∃ m', m' < m ∧ W (i + 1) m' σ' H') ∧ ∀ x H', (Itl K a).yld i H x H' → g x σ H' fun σ2 H2 => tb { D with nx := N, ct := N, bk := D.nx } σ2 H2) := by
  refine ⟨fun i m σ H => m = xs.length - i ∧ i ≤ xs.length ∧ Pv i σ H, ⟨xs.length, by simp, Nat.zero_le _, h0⟩, ?_⟩
  rintro i m σ H ⟨rfl, hi, p⟩
  have q := hl i σ H hi p
  by_cases hlt : i < xs.length
  · refine .inr ⟨⟨xs, xs[i], q, by simp [hlt]⟩, Pv (i + 1), fun σ' H' p' => ⟨xs.length - (i + 1), by omega, rfl, hlt, p'⟩, fun x H' y => ?_⟩
    obtain ⟨e, y⟩ := y
    subst e
    exact hs i x σ _ (y xs q) p
  · have e : i = xs.length := by omega
    subst e
    exact .inl ⟨⟨xs, q, Nat.le_refl _⟩, hd σ H p⟩
theorem for_tup {K : PySem.W.Frag} {a : Addr} {xs : List V} {g : TG} {tb : TS} {D : Ends} {σ : St} {H : Hp} (Pv : Nat → St → Hp → Prop) (h0 : Pv 0 σ H) (hl : ∀ i σ H, i ≤ xs.length → Pv i σ H → SqT K H a xs)
    (hs : ∀ i x σ H, xs[i]? = some x → Pv i σ H → g x σ H fun σ2 H2 => tb { D with nx := Pv (i + 1), ct := Pv (i + 1), bk := D.nx } σ2 H2) (hd : ∀ σ H, Pv xs.length σ H → D.nx σ H) :
    ∃ W : Nat → Nat → St → Hp → Prop, (∃ m, W 0 m σ H) ∧ ∀ i m σ H, W i m σ H →
      ((Itt K a).stop i H ∧ D.nx σ H) ∨ ((Itt K a).go i H ∧ ∃ N : St → Hp → Prop, (∀ σ' H', N σ' H' → ∃ m', m' < m ∧ W (i + 1) m' σ' H') ∧ ∀ x H', (Itt K a).yld i H x H' → g x σ H' fun σ2 H2 => tb { D with nx := N, ct := N, bk := D.nx } σ2 H2) := by
  refine ⟨fun i m σ H => m = xs.length - i ∧ i ≤ xs.length ∧ Pv i σ H, ⟨xs.length, by simp, Nat.zero_le _, h0⟩, ?_⟩
  rintro i m σ H ⟨rfl, hi, p⟩
  have q := hl i σ H hi p
  by_cases hlt : i < xs.length
  · refine .inr ⟨⟨xs, xs[i], q, by simp [hlt]⟩, Pv (i + 1), fun σ' H' p' => ⟨xs.length - (i + 1), by omega, rfl, hlt, p'⟩, fun x H' y => ?_⟩
    obtain ⟨e, y⟩ := y
    subst e
    exact hs i x σ _ (y xs q) p
  · have e : i = xs.length := by omega
    subst e
    exact .inl ⟨⟨xs, q, Nat.le_refl _⟩, hd σ H p⟩
theorem for_range {lo : Int} {n : Nat} {g : TG} {tb : TS} {D : Ends} {σ : St} {H : Hp} (Pv : Nat → St → Hp → Prop) (h0 : Pv 0 σ H)
    (hs : ∀ i σ H, i < n → Pv i σ H → g (.int (lo + i)) σ H fun σ2 H2 => tb { D with nx := Pv (i + 1), ct := Pv (i + 1), bk := D.nx } σ2 H2) (hd : ∀ σ H, Pv n σ H → D.nx σ H) :
    ∃ W : Nat → Nat → St → Hp → Prop, (∃ m, W 0 m σ H) ∧ ∀ i m σ H, W i m σ H →
      ((Itr lo n).stop i H ∧ D.nx σ H) ∨ ((Itr lo n).go i H ∧ ∃ N : St → Hp → Prop, (∀ σ' H', N σ' H' → ∃ m', m' < m ∧ W (i + 1) m' σ' H') ∧ ∀ x H', (Itr lo n).yld i H x H' → g x σ H' fun σ2 H2 => tb { D with nx := N, ct := N, bk := D.nx } σ2 H2) := by
  refine ⟨fun i m σ H => m = n - i ∧ i ≤ n ∧ Pv i σ H, ⟨n, by simp, Nat.zero_le _, h0⟩, ?_⟩
  rintro i m σ H ⟨rfl, hi, p⟩
  by_cases hlt : i < n
  · refine .inr ⟨hlt, Pv (i + 1), fun σ' H' p' => ⟨n - (i + 1), by omega, rfl, hlt, p'⟩, fun x H' y => ?_⟩
    obtain ⟨e, y⟩ := y
    subst e y
    exact hs i σ _ hlt p
  · have e : i = n := by omega
    subst e
    exact .inl ⟨Nat.le_refl _, hd σ H p⟩
theorem while_by {c : TT} {tb : TS} {D : Ends} {σ : St} {H : Hp} (Pv : St → Hp → Prop) (μ : St → Hp → Nat) (h0 : Pv σ H)
    (hs : ∀ σ H, Pv σ H → c σ H fun b H1 => if b = true then tb { D with nx := fun σ' H' => Pv σ' H' ∧ μ σ' H' < μ σ H, ct := fun σ' H' => Pv σ' H' ∧ μ σ' H' < μ σ H, bk := D.nx } σ H1 else D.nx σ H1)
    (mono : ∀ σ H Q Q', (∀ b H1, Q b H1 → Q' b H1) → c σ H Q → c σ H Q') : tWhile c tb D σ H := by
  refine ⟨fun m σ H => m = μ σ H ∧ Pv σ H, ⟨_, rfl, h0⟩, ?_⟩
  rintro m σ H ⟨rfl, p⟩
  refine mono σ H _ _ (fun b H1 q => ?_) (hs σ H p)
  cases b with
  | true => exact ⟨_, fun σ' H' ⟨p', l⟩ => ⟨_, l, rfl, p'⟩, q⟩
  | false => exact q
end L2
namespace L2
open PySem PySem.Spec PyProof.Rows
abbrev R2 := V → V → Hp → VK → Prop
def OpR (X : Cx) (f : Value → Value → Sem Value) (r : R2) : Prop :=
  ∀ (pins : List (Addr × Obj)) (s : Shared) (σ : St) (H : Hp) (x y : V) (v u : Value) (Q : VK), Inv X pins σ H s → RelV x v → RelV y u → r x y H Q →
    wpAny (model X.prog X.w) X.A (f v u) (EP X pins σ Q) X.xe s
def UnR (X : Cx) (f : Value → Sem Value) (r : V → Hp → VK → Prop) : Prop :=
  ∀ (pins : List (Addr × Obj)) (s : Shared) (σ : St) (H : Hp) (x : V) (v : Value) (Q : VK), Inv X pins σ H s → RelV x v → r x H Q →
    wpAny (model X.prog X.w) X.A (f v) (EP X pins σ Q) X.xe s
def CallR (X : Cx) (f : Value) (r : List V → Hp → VK → Prop) : Prop :=
  ∀ (pins : List (Addr × Obj)) (s : Shared) (σ : St) (H : Hp) (xs : List V) (us : List Value) (Q : VK), Inv X pins σ H s → Vals xs us → r xs H Q →
    wpAny (model X.prog X.w) X.A (call f us) (EP X pins σ Q) X.xe s
def TruR (X : Cx) (r : V → Hp → (Bool → Hp → Prop) → Prop) : Prop :=
  ∀ (pins : List (Addr × Obj)) (s : Shared) (σ : St) (H : Hp) (x : V) (v : Value) (Q : Bool → Hp → Prop), Inv X pins σ H s → RelV x v → r x H Q →
    wpAny (model X.prog X.w) X.A (truthy v) (TP X pins σ Q) X.xe s
def tOp (r : R2) (ta tb : TE) : TE := fun σ H Q => ta σ H fun x H1 => tb σ H1 fun y H2 => r x y H2 Q
def tUn (r : V → Hp → VK → Prop) (ta : TE) : TE := fun σ H Q => ta σ H fun x H1 => r x H1 Q
def rI (C : Int → Int → Prop) (g : Int → Int → V) : R2 := fun x y H Q => ∃ i j, x = .int i ∧ y = .int j ∧ C i j ∧ Q (g i j) H
def rI0 (g : Int → Int → V) : R2 := fun x y H Q => ∃ i j, x = .int i ∧ y = .int j ∧ Q (g i j) H
def rU (g : Int → V) : V → Hp → VK → Prop := fun x H Q => ∃ i, x = .int i ∧ Q (g i) H
section
variable {X : Cx} {a b c : Expr} {ta tb tc : TE} {pos : Pos}
theorem binT (ha : PE X a ta) (hb : PE X b tb) {pins : List (Addr × Obj)} {s : Shared} {σ : St} {H : Hp} {R : V → V → Hp → Prop} (I : Inv X pins σ H s)
    (h : ta σ H fun x H1 => tb σ H1 fun y H2 => R x y H2) {Q : Value → Shared → Prop} {f : Value → Value → Sem Value}
    (hf : ∀ v u s2 x y H2, Inv X pins σ H2 s2 → RelV x v → RelV y u → R x y H2 → wpAny (model X.prog X.w) X.A (f v u) Q X.xe s2) :
    wpAny (model X.prog X.w) X.A (eval a X.env) (fun v s₁ => wpAny (model X.prog X.w) X.A (eval b X.env) (fun u s₂ => wpAny (model X.prog X.w) X.A (f v u) Q X.xe s₂) X.xe s₁) X.xe s := by
  refine thn (ha pins s σ H _ I h) fun v s1 ⟨x, H1, I1, r1, q1⟩ => ?_
  refine thn (hb pins s1 σ H1 _ I1 q1) fun u s2 ⟨y, H2, I2, r2, q2⟩ => ?_
  exact hf v u s2 x y H2 I2 r1 r2 q2
theorem pe_op {op : Operator} {r : R2} (ho : OpR X (binaryOp op) r) (ha : PE X a ta) (hb : PE X b tb) : PE X (.BinOp a op b pos) (tOp r ta tb) := by
  intro pins s σ H Q I h
  exact wpAny_BinOp (binT ha hb I h fun v u s2 x y H2 I2 rx ry q => ho pins s2 σ H2 x y v u Q I2 rx ry q)
theorem pe_un {op : UnaryOp} {r : V → Hp → VK → Prop} (ho : UnR X (unaryOp op) r) (ha : PE X a ta) : PE X (.UnaryOp op a pos) (tUn r ta) := by
  intro pins s σ H Q I h
  exact UnaryOp_ (thn (ha pins s σ H _ I h) fun v s1 ⟨x, H1, I1, r1, q1⟩ => ho pins s1 σ H1 x v Q I1 r1 q1)
theorem augR {op : Operator} {r : R2} (ho : OpR X (inplaceOp op) r) {pins : List (Addr × Obj)} {s : Shared} {σ : St} {H : Hp} {x y : V} {v u : Value} {Q : VK} (I : Inv X pins σ H s)
    (rx : RelV x v) (ry : RelV y u) (q : r x y H Q) : wpAny (model X.prog X.w) X.A (inplaceOp op v u) (EP X pins σ Q) X.xe s := ho pins s σ H x y v u Q I rx ry q
theorem opI {f : Value → Value → Sem Value} {C : Int → Int → Prop} {g : Int → Int → Int}
    (rule : ∀ (i j : Int) (t u : Tok) (s : Shared) (Q : Value → Shared → Prop) (E : Value → Shared → Prop), C i j → Q (.int (g i j) s.toks) { s with toks := s.toks + 1 } → wpAny (model X.prog X.w) X.A (f (.int i t) (.int j u)) Q E s) :
    OpR X f (rI C fun i j => .int (g i j)) := by
  intro pins s σ H x y v u Q I rx ry h
  obtain ⟨i, j, rfl, rfl, hc, q⟩ := h
  obtain ⟨t, rfl⟩ := rx
  obtain ⟨t', rfl⟩ := ry
  exact rule i j t t' s _ _ hc ⟨.int (g i j), H, I.tok _, ⟨_, rfl⟩, q⟩
theorem opI0 {f : Value → Value → Sem Value} {g : Int → Int → Int}
    (rule : ∀ (i j : Int) (t u : Tok) (s : Shared) (Q : Value → Shared → Prop) (E : Value → Shared → Prop), Q (.int (g i j) s.toks) { s with toks := s.toks + 1 } → wpAny (model X.prog X.w) X.A (f (.int i t) (.int j u)) Q E s) :
    OpR X f (rI0 fun i j => .int (g i j)) := by
  intro pins s σ H x y v u Q I rx ry h
  obtain ⟨i, j, rfl, rfl, q⟩ := h
  obtain ⟨t, rfl⟩ := rx
  obtain ⟨t', rfl⟩ := ry
  exact rule i j t t' s _ _ ⟨.int (g i j), H, I.tok _, ⟨_, rfl⟩, q⟩
theorem opB0 {f : Value → Value → Sem Value} {g : Int → Int → Bool}
    (rule : ∀ (i j : Int) (t u : Tok) (s : Shared) (Q : Value → Shared → Prop) (E : Value → Shared → Prop), Q (.bool (g i j)) s → wpAny (model X.prog X.w) X.A (f (.int i t) (.int j u)) Q E s) :
    OpR X f (rI0 fun i j => .bl (g i j)) := by
  intro pins s σ H x y v u Q I rx ry h
  obtain ⟨i, j, rfl, rfl, q⟩ := h
  obtain ⟨t, rfl⟩ := rx
  obtain ⟨t', rfl⟩ := ry
  exact rule i j t t' s _ _ ⟨.bl (g i j), H, I, rfl, q⟩
def CDiv (i j : Int) : Prop := 0 < j ∧ j < 1073741824
def CDivN (i j : Int) : Prop := j ≠ 0 ∧ j.natAbs < 1073741824
def CPow (i j : Int) : Prop := 0 ≤ j ∧ j ≤ 1000000 ∧ i.natAbs < 2 ^ 64
def CMul (i j : Int) : Prop := (-(2 ^ 64) < i ∧ i < 2 ^ 64) ∨ (-(2 ^ 64) < j ∧ j < 2 ^ 64)
theorem CMul.ok {i j : Int} (h : CMul i j) : IntMulOk i j := by
  rcases h with ⟨h1, h2⟩ | ⟨h1, h2⟩
  · exact .of_left (intBits_le_64 h1 h2)
  · exact .of_right (intBits_le_64 h1 h2)
theorem two_pow_nn (k : Nat) : (0 : Int) ≤ 2 ^ k := by
  rw [two_pow_cast]
  exact Int.natCast_nonneg _
theorem op_add : OpR X (binaryOp .Add) (rI0 fun i j => .int (i + j)) := opI0 fun _ _ _ _ _ _ _ q => add_int q
theorem op_sub : OpR X (binaryOp .Sub) (rI0 fun i j => .int (i - j)) := opI0 fun _ _ _ _ _ _ _ q => sub_int q
theorem op_mul : OpR X (binaryOp .Mult) (rI CMul fun i j => .int (i * j)) := opI fun _ _ _ _ _ _ _ hc q => mul_int q hc.ok
theorem op_fdiv : OpR X (binaryOp .FloorDiv) (rI CDiv fun i j => .int (i / j)) := opI fun i j _ _ _ _ _ hc q => by
  have h1 : (0 : Int) < j := hc.1
  have h2 : j < 1073741824 := hc.2
  exact floordiv_int (by omega) (by rw [Int.fdiv_eq_ediv_of_nonneg i (by omega)]; exact q) (.inl (PyProof.noPylong_small (by omega)))
theorem op_fdivN : OpR X (binaryOp .FloorDiv) (rI CDivN fun i j => .int (i.fdiv j)) := opI fun _ _ _ _ _ _ _ hc q => floordiv_int hc.1 q (.inl (PyProof.noPylong_small hc.2))
theorem op_mod : OpR X (binaryOp .Mod) (rI (fun _ j => 0 < j) fun i j => .int (i % j)) := opI fun i j _ _ _ _ _ hc q => by
  have h1 : (0 : Int) < j := hc
  exact mod_int' (by omega) (by rw [Int.fmod_eq_emod_of_nonneg i (by omega)]; exact q)
theorem op_modN : OpR X (binaryOp .Mod) (rI (fun _ j => j ≠ 0) fun i j => .int (i.fmod j)) := opI fun _ _ _ _ _ _ _ hc q => mod_int' hc q
theorem op_pow : OpR X (binaryOp .Pow) (rI CPow fun i j => .int (i ^ j.toNat)) := opI fun _ _ _ _ _ _ _ hc q => pow_int_small hc.1 hc.2.1 hc.2.2 q
theorem op_shl : OpR X (binaryOp .LShift) (rI CPow fun i j => .int (i * 2 ^ j.toNat)) := opI fun _ _ _ _ _ _ _ hc q => lshift_int_small hc.1 hc.2.1 hc.2.2 q
theorem op_shr : OpR X (binaryOp .RShift) (rI (fun _ j => 0 ≤ j) fun i j => .int (i / 2 ^ j.toNat)) := opI fun i j _ _ _ _ _ hc q =>
  rshift_int hc (by rw [Int.fdiv_eq_ediv_of_nonneg i (two_pow_nn _)]; exact q)
theorem op_and : OpR X (binaryOp .BitAnd) (rI0 fun i j => .int (Builtin.bitAnd i j)) := opI0 fun _ _ _ _ _ _ _ q => and_int q
theorem op_or : OpR X (binaryOp .BitOr) (rI0 fun i j => .int (Builtin.bitOr i j)) := opI0 fun _ _ _ _ _ _ _ q => or_int q
theorem op_xor : OpR X (binaryOp .BitXor) (rI0 fun i j => .int (Builtin.bitXor i j)) := opI0 fun _ _ _ _ _ _ _ q => xor_int q
theorem iop_add : OpR X (inplaceOp .Add) (rI0 fun i j => .int (i + j)) := opI0 fun _ _ _ _ _ _ _ q => iadd_int q
theorem iop_sub : OpR X (inplaceOp .Sub) (rI0 fun i j => .int (i - j)) := opI0 fun _ _ _ _ _ _ _ q => isub_int q
theorem iop_mul : OpR X (inplaceOp .Mult) (rI CMul fun i j => .int (i * j)) := opI fun _ _ _ _ _ _ _ hc q => imul_int q hc.ok
theorem iop_fdiv : OpR X (inplaceOp .FloorDiv) (rI CDiv fun i j => .int (i / j)) := opI fun i j _ _ _ _ _ hc q => by
  have h1 : (0 : Int) < j := hc.1
  have h2 : j < 1073741824 := hc.2
  exact ifloordiv_int (by omega) (by rw [Int.fdiv_eq_ediv_of_nonneg i (by omega)]; exact q) (.inl (PyProof.noPylong_small (by omega)))
theorem iop_mod : OpR X (inplaceOp .Mod) (rI (fun _ j => 0 < j) fun i j => .int (i % j)) := opI fun i j _ _ _ _ _ hc q => by
  have h1 : (0 : Int) < j := hc
  exact imod_int (by omega) (by rw [Int.fmod_eq_emod_of_nonneg i (by omega)]; exact q)
theorem iop_shl : OpR X (inplaceOp .LShift) (rI CPow fun i j => .int (i * 2 ^ j.toNat)) := opI fun _ _ _ _ _ _ _ hc q => ilshift_int_small hc.1 hc.2.1 hc.2.2 q
theorem iop_shr : OpR X (inplaceOp .RShift) (rI (fun _ j => 0 ≤ j) fun i j => .int (i / 2 ^ j.toNat)) := opI fun i j _ _ _ _ _ hc q =>
  irshift_int hc (by rw [Int.fdiv_eq_ediv_of_nonneg i (two_pow_nn _)]; exact q)
theorem iop_and : OpR X (inplaceOp .BitAnd) (rI0 fun i j => .int (Builtin.bitAnd i j)) := opI0 fun _ _ _ _ _ _ _ q => iand_int q
theorem iop_or : OpR X (inplaceOp .BitOr) (rI0 fun i j => .int (Builtin.bitOr i j)) := opI0 fun _ _ _ _ _ _ _ q => ior_int q
theorem iop_xor : OpR X (inplaceOp .BitXor) (rI0 fun i j => .int (Builtin.bitXor i j)) := opI0 fun _ _ _ _ _ _ _ q => ixor_int q
theorem unI {f : Value → Sem Value} {g : Int → Int}
    (rule : ∀ (i : Int) (t : Tok) (s : Shared) (Q : Value → Shared → Prop) (E : Value → Shared → Prop), Q (.int (g i) s.toks) { s with toks := s.toks + 1 } → wpAny (model X.prog X.w) X.A (f (.int i t)) Q E s) :
    UnR X f (rU fun i => .int (g i)) := by
  intro pins s σ H x v Q I rx h
  obtain ⟨i, rfl, q⟩ := h
  obtain ⟨t, rfl⟩ := rx
  exact rule i t s _ _ ⟨.int (g i), H, I.tok _, ⟨_, rfl⟩, q⟩
theorem un_neg : UnR X (unaryOp .USub) (rU fun i => .int (-i)) := unI fun _ _ _ _ _ q => neg_int q
theorem un_inv : UnR X (unaryOp .Invert) (rU fun i => .int (Builtin.bitNot i)) := unI fun _ _ _ _ _ q => invert_int q
theorem op_add_ib : OpR X (binaryOp .Add) (fun x y H Q => ∃ i k, x = .int i ∧ y = .bl k ∧ Q (.int (i + b2i k)) H) := by
  intro pins s σ H x y v u Q I rx ry h
  obtain ⟨i, k, rfl, rfl, q⟩ := h
  obtain ⟨t, rfl⟩ := rx
  cases ry
  exact add_int_bool ⟨.int (i + b2i k), H, I.tok _, ⟨_, rfl⟩, q⟩
end
def scal : V → V → Bool
  | .non, .non => true | .non, .int _ => true | .int _, .non => true | .non, .bl _ => true | .bl _, .non => true | .non, .str _ => true | .str _, .non => true
  | .int _, .int _ => true | .bl _, .bl _ => true | .str _, .str _ => true | .byt _, .byt _ => true
  | .int _, .str _ => true | .str _, .int _ => true | .bl _, .str _ => true | .str _, .bl _ => true
  | _, _ => false
def rEq : R2 := fun x y H Q => scal x y = true ∧ Q (.bl (decide (x = y))) H
def rNe : R2 := fun x y H Q => scal x y = true ∧ Q (.bl (!decide (x = y))) H
theorem dec_int {i j : Int} : decide (V.int i = V.int j) = (i == j) := by
  rw [Bool.eq_iff_iff]
  simp
theorem dec_bl {i j : Bool} : decide (V.bl i = V.bl j) = (i == j) := by
  rw [Bool.eq_iff_iff]
  simp
theorem dec_str {i j : Str} : decide (V.str i = V.str j) = (i == j) := by
  rw [Bool.eq_iff_iff]
  simp
theorem dec_byt {i j : Array UInt8} : decide (V.byt i = V.byt j) = (i.toList == j.toList) := by
  rw [Bool.eq_iff_iff]
  cases i
  cases j
  simp
section
variable {X : Cx} {a b c : Expr} {ta tb tc : TE} {pos : Pos}
theorem fin_bl {pins : List (Addr × Obj)} {σ : St} {H : Hp} {s : Shared} {Q : VK} {k k' : Bool} (I : Inv X pins σ H s) (q : Q (.bl k) H) (e : k = k') : EP X pins σ Q (.bool k') s := by
  subst e
  exact ⟨.bl k, H, I, rfl, q⟩
theorem op_eq : OpR X (compareOp .Eq) rEq := by
  intro pins s σ H x y v u Q I rx ry h
  obtain ⟨hs, q⟩ := h
  cases x with
  | non =>
    cases rx
    cases y with
    | non => cases ry; exact PySem.EqNone.eq_none_none (fin_bl I q (by simp))
    | bl j => cases ry; exact PySem.EqNone.eq_none_bool (fin_bl I q (by simp))
    | int j => obtain ⟨t', rfl⟩ := ry; exact PySem.EqNone.eq_none_int (fin_bl I q (by simp))
    | str j => obtain ⟨t', rfl⟩ := ry; exact PySem.EqNone.eq_none_str (fin_bl I q (by simp))
    | _ => exact absurd (show false = true from hs) Bool.false_ne_true
  | bl i =>
    cases rx
    cases y with
    | non => cases ry; exact PySem.EqNone.eq_bool_none (fin_bl I q (by simp))
    | bl j => cases ry; exact eq_bool (fin_bl I q dec_bl)
    | str j => obtain ⟨t', rfl⟩ := ry; exact PySem.EqMixed.eq_bool_str (fin_bl I q (by simp))
    | _ => exact absurd (show false = true from hs) Bool.false_ne_true
  | int i =>
    obtain ⟨t, rfl⟩ := rx
    cases y with
    | non => cases ry; exact PySem.EqNone.eq_int_none (fin_bl I q (by simp))
    | int j => obtain ⟨t', rfl⟩ := ry; exact eq_int (fin_bl I q dec_int)
    | str j => obtain ⟨t', rfl⟩ := ry; exact PySem.EqMixed.eq_int_str (fin_bl I q (by simp))
    | _ => exact absurd (show false = true from hs) Bool.false_ne_true
  | str i =>
    obtain ⟨t, rfl⟩ := rx
    cases y with
    | non => cases ry; exact PySem.EqNone.eq_str_none (fin_bl I q (by simp))
    | bl j => cases ry; exact PySem.EqMixed.eq_str_bool (fin_bl I q (by simp))
    | int j => obtain ⟨t', rfl⟩ := ry; exact PySem.EqMixed.eq_str_int (fin_bl I q (by simp))
    | str j => obtain ⟨t', rfl⟩ := ry; exact eq_str (fin_bl I q dec_str)
    | _ => exact absurd (show false = true from hs) Bool.false_ne_true
  | byt i =>
    obtain ⟨t, rfl⟩ := rx
    cases y with
    | byt j => obtain ⟨t', rfl⟩ := ry; exact PySem.W.eq_bytes (fin_bl I q dec_byt)
    | _ => exact absurd (show false = true from hs) Bool.false_ne_true
  | _ => cases y <;> exact absurd (show false = true from hs) Bool.false_ne_true
theorem op_ne : OpR X (compareOp .NotEq) rNe := by
  intro pins s σ H x y v u Q I rx ry h
  obtain ⟨hs, q⟩ := h
  cases x with
  | non =>
    cases rx
    cases y with
    | non => cases ry; exact PySem.EqNone.ne_none_none (fin_bl I q (by simp))
    | bl j => cases ry; exact PySem.EqNone.ne_none_bool (fin_bl I q (by simp))
    | int j => obtain ⟨t', rfl⟩ := ry; exact PySem.EqNone.ne_none_int (fin_bl I q (by simp))
    | str j => obtain ⟨t', rfl⟩ := ry; exact PySem.EqNone.ne_none_str (fin_bl I q (by simp))
    | _ => exact absurd (show false = true from hs) Bool.false_ne_true
  | bl i =>
    cases rx
    cases y with
    | non => cases ry; exact PySem.EqNone.ne_bool_none (fin_bl I q (by simp))
    | bl j => cases ry; exact ne_bool (fin_bl I q (congrArg not dec_bl))
    | str j => obtain ⟨t', rfl⟩ := ry; exact PySem.EqMixed.ne_bool_str (fin_bl I q (by simp))
    | _ => exact absurd (show false = true from hs) Bool.false_ne_true
  | int i =>
    obtain ⟨t, rfl⟩ := rx
    cases y with
    | non => cases ry; exact PySem.EqNone.ne_int_none (fin_bl I q (by simp))
    | int j => obtain ⟨t', rfl⟩ := ry; exact ne_int (fin_bl I q (congrArg not dec_int))
    | str j => obtain ⟨t', rfl⟩ := ry; exact PySem.EqMixed.ne_int_str (fin_bl I q (by simp))
    | _ => exact absurd (show false = true from hs) Bool.false_ne_true
  | str i =>
    obtain ⟨t, rfl⟩ := rx
    cases y with
    | non => cases ry; exact PySem.EqNone.ne_str_none (fin_bl I q (by simp))
    | bl j => cases ry; exact PySem.EqMixed.ne_str_bool (fin_bl I q (by simp))
    | int j => obtain ⟨t', rfl⟩ := ry; exact PySem.EqMixed.ne_str_int (fin_bl I q (by simp))
    | str j => obtain ⟨t', rfl⟩ := ry; exact ne_str (fin_bl I q (congrArg not dec_str))
    | _ => exact absurd (show false = true from hs) Bool.false_ne_true
  | byt i =>
    obtain ⟨t, rfl⟩ := rx
    cases y with
    | byt j => obtain ⟨t', rfl⟩ := ry; exact PySem.W.ne_bytes (fin_bl I q (congrArg not dec_byt))
    | _ => exact absurd (show false = true from hs) Bool.false_ne_true
  | _ => cases y <;> exact absurd (show false = true from hs) Bool.false_ne_true
theorem op_lt : OpR X (compareOp .Lt) (rI0 fun i j => .bl (decide (i < j))) := opB0 fun _ _ _ _ _ _ _ q => lt_int q
theorem op_le : OpR X (compareOp .LtE) (rI0 fun i j => .bl (decide (i ≤ j))) := opB0 fun _ _ _ _ _ _ _ q => le_int q
theorem op_gt : OpR X (compareOp .Gt) (rI0 fun i j => .bl (decide (j < i))) := opB0 fun _ _ _ _ _ _ _ q => gt_int q
theorem op_ge : OpR X (compareOp .GtE) (rI0 fun i j => .bl (decide (j ≤ i))) := opB0 fun _ _ _ _ _ _ _ q => ge_int q
theorem op_lt_str : OpR X (compareOp .Lt) (fun x y H Q => ∃ i j, x = .str i ∧ y = .str j ∧ Q (.bl (decide (i.cps.toList < j.cps.toList))) H) := by
  intro pins s σ H x y v u Q I rx ry h
  obtain ⟨i, j, rfl, rfl, q⟩ := h
  obtain ⟨t, rfl⟩ := rx
  obtain ⟨t', rfl⟩ := ry
  exact lt_str (fin_bl I q rfl)
theorem op_in_str : OpR X (compareOp .In) (fun x y H Q => ∃ i j, x = .str i ∧ y = .str j ∧ Q (.bl (!(Builtin.Str.occurrences j i 0 j.length 1).isEmpty)) H) := by
  intro pins s σ H x y v u Q I rx ry h
  obtain ⟨i, j, rfl, rfl, q⟩ := h
  obtain ⟨t, rfl⟩ := rx
  obtain ⟨t', rfl⟩ := ry
  exact in_str (fin_bl I q rfl)
theorem op_isN : OpR X (compareOp .Is) (fun x y H Q => y = .non ∧ Q (.bl (decide (x = .non))) H) := by
  intro pins s σ H x y v u Q I rx ry h
  obtain ⟨rfl, q⟩ := h
  cases ry
  refine is_none_gen (fin_bl I q ?_)
  cases x <;> first
    | (cases rx; rfl)
    | (obtain ⟨t, rfl⟩ := rx; rfl)
theorem op_notN : OpR X (compareOp .IsNot) (fun x y H Q => y = .non ∧ Q (.bl (!decide (x = .non))) H) := by
  intro pins s σ H x y v u Q I rx ry h
  obtain ⟨rfl, q⟩ := h
  cases ry
  refine isnot_none_gen (fin_bl I q ?_)
  cases x <;> first
    | (cases rx; rfl)
    | (obtain ⟨t, rfl⟩ := rx; rfl)
theorem op_notin_str : OpR X (compareOp .NotIn) (fun x y H Q => ∃ i j, x = .str i ∧ y = .str j ∧ Q (.bl (!(!(Builtin.Str.occurrences j i 0 j.length 1).isEmpty))) H) := by
  intro pins s σ H x y v u Q I rx ry h
  obtain ⟨i, j, rfl, rfl, q⟩ := h
  obtain ⟨t, rfl⟩ := rx
  obtain ⟨t', rfl⟩ := ry
  exact notIn_str (fin_bl I q rfl)
def isObj : HO → Bool
  | .lst _ => true
  | .ins _ _ _ => true
  | _ => false
theorem obj_there {pins : List (Addr × Obj)} {s : Shared} {σ : St} {H : Hp} {a : Addr} {o : HO} (I : Inv X pins σ H s) (h : H a = some o) (p : isObj o = true) : ∃ ob, s.heap.get? a = some ob ∧ ob.cls ≠ .type "tuple" := by
  cases o with
  | lst xs =>
    obtain ⟨_, its, n, _, e⟩ : xs.length ≤ sizeLine ∧ ∃ (its : List Value) (n : Nat), Vals xs its ∧ s.heap.get? a = some { cls := .type "list", data := .seq its.toArray n } := I.hok a _ h
    exact ⟨_, e, (by show Value.type "list" ≠ .type "tuple"; decide +kernel)⟩
  | ins C dx fs =>
    have x := I.hok a _ h
    obtain ⟨_, _, _, e, _⟩ := x
    exact ⟨_, e, (by show Value.ref C ≠ .type "tuple"; exact fun z => by cases z)⟩
  | _ => exact absurd (show false = true from p) Bool.false_ne_true
theorem op_is_ref : OpR X (compareOp .Is) (fun x y H Q => ∃ a b oa ob, x = .ref a ∧ y = .ref b ∧ H a = some oa ∧ isObj oa = true ∧ H b = some ob ∧ isObj ob = true ∧ Q (.bl (decide (a = b))) H) := by
  intro pins s σ H x y v u Q I rx ry h
  obtain ⟨a, b, oa, ob, rfl, rfl, ha, pa, hb, pb, q⟩ := h
  cases rx
  cases ry
  obtain ⟨o1, e1, n1⟩ := obj_there I ha pa
  obtain ⟨o2, e2, _⟩ := obj_there I hb pb
  by_cases z : a = b
  · subst z
    exact wpAny_is_ref_self (fin_bl I q (by simp))
  · exact wpAny_is_ref_other z e1 e2 n1 (fin_bl I q (by simp [z]))
theorem op_isnot_ref : OpR X (compareOp .IsNot) (fun x y H Q => ∃ a b oa ob, x = .ref a ∧ y = .ref b ∧ H a = some oa ∧ isObj oa = true ∧ H b = some ob ∧ isObj ob = true ∧ Q (.bl (!decide (a = b))) H) := by
  intro pins s σ H x y v u Q I rx ry h
  obtain ⟨a, b, oa, ob, rfl, rfl, ha, pa, hb, pb, q⟩ := h
  cases rx
  cases ry
  obtain ⟨o1, e1, n1⟩ := obj_there I ha pa
  obtain ⟨o2, e2, _⟩ := obj_there I hb pb
  by_cases z : a = b
  · subst z
    exact wpAny_isNot_ref_self (fin_bl I q (by simp))
  · exact wpAny_isNot_ref_other z e1 e2 n1 (fin_bl I q (by simp [z]))
theorem OpR.or {f : Value → Value → Sem Value} {r r' : R2} (h : OpR X f r) (h' : OpR X f r') : OpR X f (fun x y H Q => r x y H Q ∨ r' x y H Q) := by
  intro pins s σ H x y v u Q I rx ry q
  rcases q with q | q
  · exact h pins s σ H x y v u Q I rx ry q
  · exact h' pins s σ H x y v u Q I rx ry q
theorem nomark (b : Expr) {op : CmpOp} (h : op ≠ .In := by decide) (h2 : op ≠ .NotIn := by decide) : behindInMarks op b = false := by
  have e1 : (op == CmpOp.In) = false := by cases op <;> first | rfl | exact absurd rfl h
  have e2 : (op == CmpOp.NotIn) = false := by cases op <;> first | rfl | exact absurd rfl h2
  cases b <;> simp [behindInMarks, e1, e2]
theorem pe_cmpR {op : CmpOp} {r : R2} (ho : OpR X (compareOp op) r) (ha : PE X a ta) (hb : PE X b tb) (hm : behindInMarks op b = false) : PE X (.Compare a [op] [b] pos) (tOp r ta tb) := by
  intro pins s σ H Q I h
  exact wpAny_Compare1 (binT ha hb I h fun v u s2 x y H2 I2 rx ry q => ho pins s2 σ H2 x y v u Q I2 rx ry q) hm
def tTest (t : TE) : TT := fun σ H Q => t σ H fun x H' => ∃ k, x = .bl k ∧ Q k H'
theorem pt_cmpR {op : CmpOp} {r : R2} (ho : OpR X (compareOp op) r) (ha : PE X a ta) (hb : PE X b tb) (hm : behindInMarks op b = false) : PT X (.Compare a [op] [b] pos) (tTest (tOp r ta tb)) := by
  intro pins s σ H Q I h
  refine wpAny_isTrue_Compare1 (thn (ha pins s σ H _ I h) fun v s1 ⟨x, H1, I1, r1, q1⟩ => thn (hb pins s1 σ H1 _ I1 q1) fun u s2 ⟨y, H2, I2, r2, q2⟩ =>
    thn (ho pins s2 σ H2 x y v u _ I2 r1 r2 q2) fun c s3 ⟨z, H3, I3, r3, k, e, q3⟩ => ?_) hm
  subst e
  cases r3
  exact wpAny_truthy_bool ⟨H3, I3, q3⟩
def tChain (r r' : R2) (ta tb tc : TE) : TE := fun σ H Q => ta σ H fun x H1 => tb σ H1 fun y H2 => r x y H2 fun z H3 => ∃ k, z = .bl k ∧
  (if k = true then tc σ H3 fun w' H4 => r' y w' H4 Q else Q (.bl false) H3)
theorem pe_chain {op op' : CmpOp} {r r' : R2} (ho : OpR X (compareOp op) r) (ho' : OpR X (compareOp op') r') (ha : PE X a ta) (hb : PE X b tb) (hc : PE X c tc)
    (hm : lastMarks [op, op'] [b, c] = false := by with_unfolding_all rfl) : PE X (.Compare a [op, op'] [b, c] pos) (tChain r r' ta tb tc) := by
  intro pins s σ H Q I h
  refine Compare_chain (thn (ha pins s σ H _ I h) fun v s1 ⟨x, H1, I1, r1, q1⟩ => chain_link (thn (hb pins s1 σ H1 _ I1 q1) fun u s2 ⟨y, H2, I2, r2, q2⟩ =>
    thn (ho pins s2 σ H2 x y v u _ I2 r1 r2 q2) fun d s3 ⟨z, H3, I3, r3, k, e, q3⟩ => ?_)) hm
  subst e
  cases r3
  refine wpAny_truthy_bool ?_
  cases k with
  | false => exact ite_ff ⟨.bl false, H3, I3, rfl, q3⟩
  | true => exact ite_tt (chain_last (thn (hc pins s3 σ H3 _ I3 q3) fun w' s4 ⟨z', H4, I4, r4, q4⟩ => ho' pins s4 σ H4 y z' u w' Q I4 r2 r4 q4))
theorem pt_chain {op op' : CmpOp} {r r' : R2} (ho : OpR X (compareOp op) r) (ho' : OpR X (compareOp op') r') (ha : PE X a ta) (hb : PE X b tb) (hc : PE X c tc)
    (hm : lastMarks [op, op'] [b, c] = false := by with_unfolding_all rfl) : PT X (.Compare a [op, op'] [b, c] pos) (tTest (tChain r r' ta tb tc)) := by
  intro pins s σ H Q I h
  refine isTrue_chain (thn (ha pins s σ H _ I h) fun v s1 ⟨x, H1, I1, r1, q1⟩ => test_link (thn (hb pins s1 σ H1 _ I1 q1) fun u s2 ⟨y, H2, I2, r2, q2⟩ =>
    thn (ho pins s2 σ H2 x y v u _ I2 r1 r2 q2) fun d s3 ⟨z, H3, I3, r3, k, e, q3⟩ => ?_)) hm
  subst e
  cases r3
  refine wpAny_truthy_bool ?_
  cases k with
  | false =>
    obtain ⟨k', e', q'⟩ := q3
    cases e'
    exact ite_ff ⟨H3, I3, q'⟩
  | true =>
    refine ite_tt (test_last (thn (hc pins s3 σ H3 _ I3 q3) fun w' s4 ⟨z', H4, I4, r4, q4⟩ => thn (ho' pins s4 σ H4 y z' u w' _ I4 r2 r4 q4) fun d' s5 ⟨z2, H5, I5, r5, k2, e2, q5⟩ => ?_))
    subst e2
    cases r5
    exact wpAny_truthy_bool ⟨H5, I5, q5⟩
def TruV (K : PySem.W.Frag) (x : V) (H : Hp) (k : Bool) : Prop :=
  match x with
  | .non => k = false
  | .bl b => k = b
  | .int i => k = (i != 0)
  | .str y => y.length ≤ sizeLine ∧ k = ((y.length : Int) != 0)
  | .byt y => y.size ≤ sizeLine ∧ k = ((y.size : Int) != 0)
  | .ref p => (∃ xs, SqL K H p xs ∧ k = !xs.isEmpty) ∨ (∃ xs, SqT K H p xs ∧ k = !xs.isEmpty) ∨ ∃ kvs, H p = some (.dK kvs) ∧ k = !kvs.isEmpty
  | _ => False
theorem isEmpty_kv {κ : Type} {kvs : List (κ × V)} {vs : List (κ × Value)} (r : KV kvs vs) : (!vs.isEmpty) = !kvs.isEmpty := by
  cases r <;> rfl
theorem isEmpty_of {xs : List V} {its : List Value} (r : Vals xs its) : (!its.toArray.isEmpty) = !xs.isEmpty := by
  cases r <;> simp
theorem line63 : (sizeLine : Nat) < 2 ^ 63 := by rw [sizeLine_eq]; decide
theorem tru_ok : TruR X (fun x H Q => ∃ k, TruV X.K x H k ∧ Q k H) := by
  intro pins s σ H x v Q I rx h
  obtain ⟨k, e, q⟩ := h
  have hl := line63
  have hs : sizeLine = 16777216 := sizeLine_eq
  cases x with
  | non =>
    cases rx
    have e' : k = false := e
    subst e'
    exact truthy_none ⟨H, I, q⟩
  | bl b =>
    cases rx
    have e' : k = b := e
    subst e'
    exact wpAny_truthy_bool ⟨H, I, q⟩
  | int i =>
    obtain ⟨t, rfl⟩ := rx
    have e' : k = (i != 0) := e
    subst e'
    exact PySem.P.truthy_int ⟨H, I, q⟩
  | str y =>
    obtain ⟨t, rfl⟩ := rx
    obtain ⟨hy, e'⟩ : y.length ≤ sizeLine ∧ k = ((y.length : Int) != 0) := e
    subst e'
    exact PySem.P.truthy_str (by omega) ⟨H, I.tok _, q⟩
  | byt y =>
    obtain ⟨t, rfl⟩ := rx
    obtain ⟨hy, e'⟩ : y.size ≤ sizeLine ∧ k = ((y.size : Int) != 0) := e
    subst e'
    exact PySem.W.truthy_bytes (by omega) ⟨H, I.tok _, q⟩
  | ref p =>
    cases rx
    have e' : (∃ xs, SqL X.K H p xs ∧ k = !xs.isEmpty) ∨ (∃ xs, SqT X.K H p xs ∧ k = !xs.isEmpty) ∨ ∃ kvs, H p = some (.dK kvs) ∧ k = !kvs.isEmpty := e
    rcases e' with ⟨xs, hx, e'⟩ | ⟨xs, hx, e'⟩ | ⟨kvs, hx, e'⟩
    · subst e'
      obtain ⟨its, r, pl, hz⟩ := I.list hx
      have hlen := r.length
      exact wpAny_truthy_list pl.isList (by simp only [List.size_toArray]; omega) ⟨H, I.tok _, by rw [isEmpty_of r]; exact q⟩
    · subst e'
      obtain ⟨its, r, pl, hz⟩ := I.tuple hx
      have hlen := r.length
      exact truthy_tuple pl (by simp only [List.size_toArray]; omega) ⟨H, I.tok _, by rw [isEmpty_of r]; exact q⟩
    · subst e'
      obtain ⟨hz, hS, vs, r, m⟩ : kvs.length ≤ sizeLine ∧ (p == sysModules) = false ∧ ∃ vs, KV kvs vs ∧ s.heap.DictOf (mixKind X.prog X.w) p vs := I.hok p _ hx
      have hlen : kvs.length = vs.length := Paired.length r
      exact wpAny_truthy_dict hS m (by omega) ⟨H, I.tok _, by rw [isEmpty_kv r]; exact q⟩
  | _ => exact (show False from e).elim
theorem pt_truth (ha : PE X a ta) (he : ∀ whole, isTrue a X.env whole = (do let v ← whole; standAt a.pos; holding [v] (truthy v))) :
    PT X a (fun σ H Q => ta σ H fun x H' => ∃ k, TruV X.K x H' k ∧ Q k H') := by
  intro pins s σ H Q I h
  exact isTrue_plain (thn (ha pins s σ H _ I h) fun v s1 ⟨x, H1, I1, r1, q1⟩ => tru_ok pins s1 σ H1 x v Q I1 r1 q1) (he _)
theorem pe_byt {x : List UInt8} {k : Nat} : PE X (.Constant (.bytes x) k pos) (fun _ H Q => Q (.byt x.toArray) H) := fun _ _ _ H _ I h => PySem.W.Constant_bytes ⟨.byt x.toArray, H, I.tok _, ⟨_, rfl⟩, h⟩
theorem op_add_str : OpR X (binaryOp .Add) (fun x y H Q => ∃ i j, x = .str i ∧ y = .str j ∧ i.length + j.length ≤ sizeLine ∧ Q (.str (i ++ j)) H) := by
  intro pins s σ H x y v u Q I rx ry h
  obtain ⟨i, j, rfl, rfl, hz, q⟩ := h
  obtain ⟨t, rfl⟩ := rx
  obtain ⟨t', rfl⟩ := ry
  exact add_str (fun t' tk => ⟨.str (i ++ j), H, I.tok _, ⟨_, rfl⟩, q⟩) hz
theorem iop_add_str : OpR X (inplaceOp .Add) (fun x y H Q => ∃ i j, x = .str i ∧ y = .str j ∧ i.length + j.length ≤ sizeLine ∧ Q (.str (i ++ j)) H) := by
  intro pins s σ H x y v u Q I rx ry h
  obtain ⟨i, j, rfl, rfl, hz, q⟩ := h
  obtain ⟨t, rfl⟩ := rx
  obtain ⟨t', rfl⟩ := ry
  exact iadd_str (fun t' tk => ⟨.str (i ++ j), H, I.tok _, ⟨_, rfl⟩, q⟩) hz
theorem op_add_byt : OpR X (binaryOp .Add) (fun x y H Q => ∃ i j, x = .byt i ∧ y = .byt j ∧ i.size + j.size ≤ 16777216 ∧ Q (.byt (i ++ j)) H) := by
  intro pins s σ H x y v u Q I rx ry h
  obtain ⟨i, j, rfl, rfl, hz, q⟩ := h
  obtain ⟨t, rfl⟩ := rx
  obtain ⟨t', rfl⟩ := ry
  exact PySem.W.KBy.add_bytes hz (fun t' tk => ⟨.byt (i ++ j), H, I.tok _, ⟨_, rfl⟩, q⟩)
def PlainIxT (b : Expr) : Prop := ∀ o i, subscripted b false o i = operate [o, i] (getItem o i)
theorem pe_item_str (ha : PE X a ta) (hb : PE X b tb) (hs : PlainIxT b) :
    PE X (.Subscript a b pos) (tOp (fun x y H Q => ∃ z i c, x = .str z ∧ y = .int i ∧ 0 ≤ i ∧ i < 2 ^ 63 ∧ i < z.length ∧ z.cps[i.toNat]? = some c ∧ Q (.str ⟨#[c]⟩) H) ta tb) := by
  intro pins s σ H Q I h
  refine Subscript_ (binT ha hb I h fun v u s2 x y H2 I2 rx ry q => ?_)
  obtain ⟨z, i, c, rfl, rfl, h0, h63, h1, hc, q⟩ := q
  obtain ⟨t, rfl⟩ := rx
  obtain ⟨t', rfl⟩ := ry
  have e : seqIndex? i z.length = some i.toNat := PySem.StrLaws.seqIndex_nonneg h0 h1
  exact tail_any (typeIs_str s2 z t) slot_str_getitem.lookup (getItem_str (c := c) (by
    have e1 : decide (i < -(2 ^ 63 : Int)) = false := decide_eq_false (by omega)
    have e2 : decide (i ≥ 2 ^ 63) = false := decide_eq_false (by omega)
    rw [e1, e2] <;> rfl) (by rw [e]; exact hc) ⟨.str ⟨#[c]⟩, H2, I2.tok _, ⟨_, rfl⟩, q⟩) (hs _ _)
theorem pe_item_byt (ha : PE X a ta) (hb : PE X b tb) (hs : PlainIxT b) :
    PE X (.Subscript a b pos) (tOp (fun x y H Q => ∃ (z : List UInt8) (i : Int), x = .byt z.toArray ∧ y = .int i ∧ z.length ≤ sizeLine ∧ 0 ≤ i ∧ i < z.length ∧ Q (.int ((z.getD i.toNat 0).toNat : Nat)) H) ta tb) := by
  intro pins s σ H Q I h
  refine Subscript_ (binT ha hb I h fun v u s2 x y H2 I2 rx ry q => ?_)
  obtain ⟨z, i, rfl, rfl, hz, h0, h1, q⟩ := q
  obtain ⟨t, rfl⟩ := rx
  obtain ⟨t', rfl⟩ := ry
  have hl : sizeLine = 16777216 := sizeLine_eq
  exact tail_any (PySem.W.typeIs_bytes s2 z.toArray t) PySem.W.FB.slot_bytes_getitem.lookup (PySem.W.getItem_bytes (by omega) h0 h1 ⟨.int ((z.getD i.toNat 0).toNat : Nat), H2, I2.tok _, ⟨_, rfl⟩, q⟩) (hs _ _)
theorem vals1 {x : V} {us : List Value} (r : Vals [x] us) : ∃ u, us = [u] ∧ RelV x u := by
  cases r with
  | cons r1 r2 => cases r2; exact ⟨_, rfl, r1⟩
theorem vals2 {x y : V} {us : List Value} (r : Vals [x, y] us) : ∃ u w', us = [u, w'] ∧ RelV x u ∧ RelV y w' := by
  cases r with
  | cons r1 r2 =>
    cases r2 with
    | cons r3 r4 => cases r4; exact ⟨_, _, rfl, r1, r3⟩
theorem call_abs : CallR X (.builtin "abs") (fun xs H Q => ∃ i, xs = [.int i] ∧ Q (.int (if i < 0 then -i else i)) H) := by
  intro pins s σ H xs us Q I r h
  obtain ⟨i, rfl, q⟩ := h
  obtain ⟨u, rfl, t, rfl⟩ := vals1 r
  exact call_abs_int fun u tk => ⟨.int (if i < 0 then -i else i), H, I.tok _, ⟨_, rfl⟩, q⟩
theorem call_max2 (hc : X.calm = true) : CallR X (.builtin "max") (fun xs H Q => ∃ i j, xs = [.int i, .int j] ∧ Q (.int (if j > i then j else i)) H) := by
  intro pins s σ H xs us Q I r h
  obtain ⟨i, j, rfl, q⟩ := h
  obtain ⟨u, w', rfl, ⟨t, rfl⟩, ⟨t', rfl⟩⟩ := vals2 r
  refine max_two_ints (I.ok.hd hc) fun h' tk k => ⟨_, H, I.kept k, ?_, q⟩
  by_cases hj : j > i
  · rw [if_pos hj, if_pos hj]; exact ⟨_, rfl⟩
  · rw [if_neg hj, if_neg hj]; exact ⟨_, rfl⟩
theorem call_min2 (hc : X.calm = true) : CallR X (.builtin "min") (fun xs H Q => ∃ i j, xs = [.int i, .int j] ∧ Q (.int (if j < i then j else i)) H) := by
  intro pins s σ H xs us Q I r h
  obtain ⟨i, j, rfl, q⟩ := h
  obtain ⟨u, w', rfl, ⟨t, rfl⟩, ⟨t', rfl⟩⟩ := vals2 r
  refine min_two_ints (I.ok.hd hc) fun h' tk k => ⟨_, H, I.kept k, ?_, q⟩
  by_cases hj : j < i
  · rw [if_pos hj, if_pos hj]; exact ⟨_, rfl⟩
  · rw [if_neg hj, if_neg hj]; exact ⟨_, rfl⟩
theorem call_int1 : CallR X (.type "int") (fun xs H Q => (∃ i, xs = [.int i] ∧ Q (.int i) H) ∨ ∃ k, xs = [.bl k] ∧ Q (.int (if k then 1 else 0)) H) := by
  intro pins s σ H xs us Q I r h
  rcases h with ⟨i, rfl, q⟩ | ⟨k, rfl, q⟩
  · obtain ⟨u, rfl, t, rfl⟩ := vals1 r
    exact call_int_int ⟨.int i, H, I, ⟨_, rfl⟩, q⟩
  · obtain ⟨u, rfl, r1⟩ := vals1 r
    cases r1
    exact call_int_bool ⟨.int (if k then 1 else 0), H, I.tok _, ⟨_, rfl⟩, q⟩
theorem call_bool1 : CallR X (.type "bool") (fun xs H Q => (∃ i, xs = [.int i] ∧ Q (.bl (i != 0)) H) ∨ ∃ k, xs = [.bl k] ∧ Q (.bl k) H) := by
  intro pins s σ H xs us Q I r h
  rcases h with ⟨i, rfl, q⟩ | ⟨k, rfl, q⟩
  · obtain ⟨u, rfl, t, rfl⟩ := vals1 r
    exact call_bool_int ⟨.bl (i != 0), H, I, rfl, q⟩
  · obtain ⟨u, rfl, r1⟩ := vals1 r
    cases r1
    exact call_bool_bool ⟨.bl k, H, I, rfl, q⟩
theorem call_str_int : CallR X (.type "str") (fun xs H Q => ∃ i, xs = [.int i] ∧ i.natAbs.log2 < 1920 ∧ Q (.str (toString i)) H) := by
  intro pins s σ H xs us Q I r h
  obtain ⟨i, rfl, hz, q⟩ := h
  obtain ⟨u, rfl, t, rfl⟩ := vals1 r
  exact PySem.P.str_of_int hz ⟨.str _, H, I.tok _, ⟨_, rfl⟩, q⟩
theorem call_ord : CallR X (.builtin "ord") (fun xs H Q => ∃ x, xs = [.str x] ∧ x.length = 1 ∧ Q (.int (x.cps.getD 0 0 : Nat)) H) := by
  intro pins s σ H xs us Q I r h
  obtain ⟨x, rfl, hz, q⟩ := h
  obtain ⟨u, rfl, t, rfl⟩ := vals1 r
  exact ord_of_one hz ⟨.int _, H, I.tok _, ⟨_, rfl⟩, q⟩
theorem call_chr : CallR X (.builtin "chr") (fun xs H Q => ∃ i, xs = [.int i] ∧ 0 ≤ i ∧ i ≤ 1114111 ∧ Q (.str ⟨#[i.toNat]⟩) H) := by
  intro pins s σ H xs us Q I r h
  obtain ⟨i, rfl, h0, h1, q⟩ := h
  obtain ⟨u, rfl, t, rfl⟩ := vals1 r
  exact chr_of_range h0 h1 ⟨.str _, H, I.tok _, ⟨_, rfl⟩, q⟩
def LenV (K : PySem.W.Frag) (x : V) (H : Hp) (n : Nat) : Prop :=
  match x with
  | .str y => y.length ≤ sizeLine ∧ n = y.length
  | .byt y => y.size ≤ sizeLine ∧ n = y.size
  | .ref p => (∃ xs, SqL K H p xs ∧ n = xs.length) ∨ ∃ xs, SqT K H p xs ∧ n = xs.length
  | _ => False
theorem call_len : CallR X (.builtin "len") (fun xs H Q => ∃ x n, xs = [x] ∧ LenV X.K x H n ∧ Q (.int n) H) := by
  intro pins s σ H xs us Q I r h
  obtain ⟨x, n, rfl, e, q⟩ := h
  obtain ⟨u, rfl, rx⟩ := vals1 r
  have hl := line63
  have hs : sizeLine = 16777216 := sizeLine_eq
  cases x with
  | str y =>
    obtain ⟨t, rfl⟩ := rx
    obtain ⟨hy, e'⟩ : y.length ≤ sizeLine ∧ n = y.length := e
    subst e'
    exact len_str (by omega) ⟨.int _, H, I.tok _, ⟨_, rfl⟩, q⟩
  | byt y =>
    obtain ⟨t, rfl⟩ := rx
    obtain ⟨hy, e'⟩ : y.size ≤ sizeLine ∧ n = y.size := e
    subst e'
    exact PySem.W.len_bytes (by omega) ⟨.int _, H, I.tok _, ⟨_, rfl⟩, q⟩
  | ref p =>
    cases rx
    have e' : (∃ xs, SqL X.K H p xs ∧ n = xs.length) ∨ ∃ xs, SqT X.K H p xs ∧ n = xs.length := e
    rcases e' with ⟨xs, hx, e'⟩ | ⟨xs, hx, e'⟩
    · subst e'
      obtain ⟨its, r', pl, hz⟩ := I.list hx
      have hlen := r'.length
      exact Calls.call_len_list pl.isList (by simp only [List.size_toArray]; omega) ⟨.int xs.length, H, I.tok _, ⟨_, by simp only [List.size_toArray]; rw [hlen]⟩, q⟩
    · subst e'
      obtain ⟨its, r', pl, hz⟩ := I.tuple hx
      have hlen := r'.length
      exact len_tuple pl (by simp only [List.size_toArray]; omega) ⟨.int xs.length, H, I.tok _, ⟨_, by simp only [List.size_toArray]; rw [hlen]⟩, q⟩
  | _ => exact (show False from e).elim
theorem call_divmod : CallR X (.builtin "divmod") (fun xs H Q => ∃ i j, xs = [.int i, .int j] ∧ CDiv i j ∧ ∀ p, H p = none → Q (.ref p) (upd H p (.tup [.int (i / j), .int (i % j)]))) := by
  intro pins s σ H xs us Q I r h
  obtain ⟨i, j, rfl, ⟨h1, h2⟩, q⟩ := h
  obtain ⟨u, w', rfl, ⟨t, rfl⟩, ⟨t', rfl⟩⟩ := vals2 r
  refine divmod_int (by omega) ?_ (.inl (PyProof.noPylong_small (by omega)))
  rw [Int.fdiv_eq_ediv_of_nonneg i (by omega), Int.fmod_eq_emod_of_nonneg i (by omega)]
  have hn : H s.heap.objs.size = none := I.hok.fresh (Nat.le_refl _)
  refine ⟨.ref s.heap.objs.size, _, ?_, rfl, q _ hn⟩
  refine I.laid (fun b o e => Heap.get?_push_of_some _ e) (Nat.le_refl _) ⟨by simp only [List.length_cons, List.length_nil]; rw [sizeLine_eq]; decide, [.int (i / j) s.toks, .int (i % j) (s.toks + 1)], .cons ⟨_, rfl⟩ (.cons ⟨_, rfl⟩ .nil), ?_⟩
  exact ⟨_, Heap.get?_push_size s.heap rfl, rfl, 0, rfl⟩
end
end L2
namespace L2
open PySem PySem.Spec PyProof.Rows
structure ObjM (h : Heap) (x dx C : Addr) (mA : Str → Option Value) : Prop where
  obj : h.get? x = some (PySem.W.instObj C dx)
  ns : h.Ns1 dx mA
  ne : dx ≠ x
theorem lookIn_ns {h : Heap} {dx : Addr} {mA : Str → Option Value} (n : h.Ns1 dx mA) : ∃ od, h.get? dx = some od ∧ ∀ name, PySem.W.lookIn name od = some (mA name) := by
  obtain ⟨o, es, ep, ho, hd, hk, _, hm⟩ := n
  refine ⟨o, ho, fun name => ?_⟩
  have e := hm name
  unfold nsFind findBy at e
  rw [← Array.find?_toList] at e
  unfold PySem.W.lookIn
  rw [hd]
  dsimp only
  split
  · rename_i y q
    rw [q] at e
    exact congrArg some e
  · rename_i q
    rw [q] at e
    have a : es.toList.any (·.refKey) = false := by
      rw [List.any_eq_false]
      intro y hy
      obtain ⟨z, t, hkey⟩ := hk y (Array.mem_toList_iff.mp hy)
      simp [DictEntry.refKey, hkey]
    have a' : ¬ es.toList.any (·.refKey) = true := by rw [a]; exact Bool.false_ne_true
    rw [if_neg a']
    exact congrArg some e
theorem ObjM.look {h : Heap} {x dx C : Addr} {mA : Str → Option Value} (I : ObjM h x dx C mA) : ∃ od, PySem.W.InstAt h x (PySem.W.instObj C dx) C (some od) ∧ ∀ name, PySem.W.lookIn name od = some (mA name) :=
  let ⟨od, ho, hl⟩ := lookIn_ns I.ns
  ⟨od, ⟨I.obj, rfl, rfl, ho⟩, hl⟩
section
variable {prog : Program} {w : World} {A : Around} {E : Value → Shared → Prop} {s : Shared} {K : PySem.W.Frag} {x dx C f : Addr} {mA : Str → Option Value} {name : Str} {v : Value}
theorem get_map {expr : Bool} {Q : Value → Shared → Prop} (X : K.In s.heap) (I : ObjM s.heap x dx C mA) (hg : PySem.W.plainGet K C name = true) (hh : PySem.W.hasDictIn K C = true)
    (ha : PySem.W.findIn K (.ref C) name = some none) (hv : mA name = some v) (hv' : PySem.W.handedIn v = true) (h : Q v { s with toks := s.toks + 1 }) :
    wpAny (model prog w) A (getAttr (.ref x) name expr) Q E s := by
  obtain ⟨od, J, hl⟩ := I.look
  exact PySem.W.get_value X J (PySem.W.plainGet_of hg).1 (PySem.W.findObj_own hh ha rfl (by rw [hl, hv])) hv' h
theorem get_const {expr : Bool} {a : Value} {Q : Value → Shared → Prop} (X : K.In s.heap) (I : ObjM s.heap x dx C mA) (hg : PySem.W.plainGet K C name = true) (hh : PySem.W.hasDictIn K C = true)
    (ha : PySem.W.findIn K (.ref C) name = some (some a)) (hn : PySem.W.specialIn K a "__get__" = some none) (hc : PySem.W.copiedNames.contains name = false) (hv : mA name = none) (hv' : PySem.W.handedIn a = true)
    (h : Q a { s with toks := s.toks + 1 }) : wpAny (model prog w) A (getAttr (.ref x) name expr) Q E s := by
  obtain ⟨od, J, hl⟩ := I.look
  exact PySem.W.get_value X J (PySem.W.plainGet_of hg).1 (PySem.W.findObj_cls hh ha hn hv' hc (by rw [hl, hv])) hv' h
theorem get_meth {pl : Sem Bool} {Q : Value × List Value → Shared → Prop} (X : K.In s.heap) (I : ObjM s.heap x dx C mA) (hg : PySem.W.plainGet K C name = true)
    (hf : PySem.W.findIn K (.ref C) name = some (some (.ref f))) (ht : PySem.W.isFn K (.ref f) = true) (hv : mA name = none) (h : Q (.ref f, [.ref x]) s) :
    wpAny (model prog w) A (getMethod (.ref x) name pl) Q E s := by
  obtain ⟨od, J, hl⟩ := I.look
  exact PySem.W.method_fn X J (PySem.W.plainGet_of hg).1 (PySem.W.plainGet_of hg).2 hf (beq_iff_eq.mp ht) (by show (PySem.W.lookIn name od).map (·.isSome) = some false; rw [hl, hv]; rfl) h
theorem set_map {ns : List Str} {Q : Unit → Shared → Prop} (X : K.In s.heap) (I : ObjM s.heap x dx C mA)
    (hs : PySem.W.findIn K (.ref C) "__setattr__" = some (some (.builtin "object.__setattr__"))) (hp : PySem.W.plainOver K C = true) (ht : PySem.W.takerIn K C name = some none) (hh : PySem.W.hasDictIn K C = true)
    (hw : PySem.Within mA ns) (hsz : ns.length ≤ sizeLine)
    (h : ∀ h', ObjM h' x dx C (fun y => if y = name then some v else mA y) → Heap.SameBut dx s.heap h' → Q () { s with heap := h', toks := s.toks + 2 }) :
    wpAny (model prog w) A (setAttr (.ref x) name v) Q E s := by
  obtain ⟨od, J, hl⟩ := I.look
  refine PySem.W.set_plain X J hs (PySem.W.osa_open (s := { s with toks := s.toks + 1 }) (r := none) X J hp ht fun b => ?_)
  obtain ⟨cd, hc, hd'⟩ := PySem.W.any_some hh
  have hx : s.heap.get? x = some ⟨.ref C, some dx, .plain, #[]⟩ := I.obj
  refine wpAny_bind (wpAny_pure (wpAny_bind (wpAny_bind (wpAny_loadPart hx (wpAny_bind (PySem.W.Looks.here (s := { s with toks := s.toks + 1 }) (PySem.W.looks_clsIn X hc) ?_))))))
  rw [hd']
  refine wpAny_pure (a := some dx) (wpAny_bind (wpAny_pure (wpAny_bind ?_)))
  refine wpAny_nsSet1 (s := { s with toks := s.toks + 1 }) I.ns fun h' hn2 hs2 => ?_
  obtain ⟨oD, esD, epD, hoD, hdD, hcD⟩ := hn2.count (PySem.Within.cons name v hw)
  refine wpAny_bind (wpAny_lookBehind hoD (by rw [hdD]; exact pastItsLine_dict (Nat.le_trans hcD (by rw [List.length_cons]; omega))) ?_)
  exact wpAny_pure (h _ ⟨(hs2.2 _ (Ne.symm I.ne)).trans I.obj, hn2, I.ne⟩ hs2)
theorem make_map {R : Result → Shared → Prop} {vs : List Value} {kw : List (Str × Value)} (X : K.In s.heap) (hm : PySem.W.makesIn K C = true)
    (hi : PySem.W.findIn K (.ref C) "__init__" = some (some (.ref f))) (hf : PySem.W.typeIn K (.ref f) = some (.type "function"))
    (h : codeAny (model prog w) (A.under (.builtin "type.__call__" ⟨.ref C :: vs, kw⟩)) (.call (.ref f) ⟨.ref (s.heap.objs.size + 1) :: vs, kw⟩) (PySem.W.InitBack (s.heap.objs.size + 1) R)
      { s with heap := (s.heap.push PySem.W.emptyDict).push (PySem.W.instObj C s.heap.objs.size) }) :
    codeAny (model prog w) A (.call (.ref C) ⟨vs, kw⟩) R s := by
  obtain ⟨hh, g, d, t, os⟩ := s
  exact PySem.W.make_core (PySem.W.makes_of X hm) (PySem.W.looks_findIn X hi) (fun self => PySem.W.bind_fn X self hf) (.inl rfl) h
theorem make_map0 {R : Result → Shared → Prop} (X : K.In s.heap) (hm : PySem.W.makesIn K C = true)
    (hi : PySem.W.findIn K (.ref C) "__init__" = some (some (.builtin "object.__init__")))
    (hb : ∀ self, PySem.W.Looks (model prog w) s.heap (bindSpecial (.builtin "object.__init__") self) (.builtin "object.__init__", [self]))
    (h : codeAny (model prog w) (A.under (.builtin "type.__call__" ⟨[.ref C], []⟩)) (.call (.builtin "object.__init__") ⟨[.ref (s.heap.objs.size + 1)], []⟩) (PySem.W.InitBack (s.heap.objs.size + 1) R)
      { s with heap := (s.heap.push PySem.W.emptyDict).push (PySem.W.instObj C s.heap.objs.size) }) :
    codeAny (model prog w) A (.call (.ref C) ⟨[], []⟩) R s := by
  obtain ⟨hh, g, d, t, os⟩ := s
  exact PySem.W.make_core (PySem.W.makes_of X hm) (PySem.W.looks_findIn X hi) hb (.inr ⟨rfl, rfl⟩) h
end
def putF (f : Str) (v : V) : List (Str × V) → List (Str × V)
  | [] => [(f, v)]
  | (g, x) :: r => if g = f then (g, v) :: r else (g, x) :: putF f v r
theorem lookup_putF (f g : Str) (v : V) : ∀ fs : List (Str × V), (putF f v fs).lookup g = if g = f then some v else fs.lookup g
  | [] => by
    show List.lookup g [(f, v)] = _
    by_cases h : g = f
    · have hb : (g == f) = true := beq_iff_eq.mpr h
      simp only [List.lookup, hb, if_pos h]
    · have hb : (g == f) = false := beq_eq_false_iff_ne.mpr h
      simp only [List.lookup, hb, if_neg h]
  | (k, x) :: r => by
    have ih := lookup_putF f g v r
    rw [show putF f v ((k, x) :: r) = (if k = f then (k, v) :: r else (k, x) :: putF f v r) from rfl]
    by_cases hk : k = f
    · rw [if_pos hk]
      by_cases h : g = k
      · have hb : (g == k) = true := beq_iff_eq.mpr h
        simp only [List.lookup, hb, if_pos (h.trans hk)]
      · have hb : (g == k) = false := beq_eq_false_iff_ne.mpr h
        simp only [List.lookup, hb, if_neg (fun e : g = f => h (e.trans hk.symm))]
    · rw [if_neg hk]
      by_cases h : g = k
      · have hb : (g == k) = true := beq_iff_eq.mpr h
        simp only [List.lookup, hb, if_neg (fun e : g = f => hk (h.symm.trans e))]
      · have hb : (g == k) = false := beq_eq_false_iff_ne.mpr h
        simp only [List.lookup, hb]
        exact ih
theorem keys_putF (f : Str) (v : V) : ∀ fs : List (Str × V), f ∈ (putF f v fs).map (·.1) ∧ ∀ g, g ∈ fs.map (·.1) → g ∈ (putF f v fs).map (·.1)
  | [] => ⟨by simp [putF], fun g h => by simp at h⟩
  | (k, x) :: r => by
    obtain ⟨i1, i2⟩ := keys_putF f v r
    rw [show putF f v ((k, x) :: r) = (if k = f then (k, v) :: r else (k, x) :: putF f v r) from rfl]
    by_cases hk : k = f
    · rw [if_pos hk]
      subst hk
      exact ⟨by simp, fun g h => by simpa using h⟩
    · rw [if_neg hk]
      refine ⟨?_, fun g h => ?_⟩
      · rw [List.map_cons]
        exact List.mem_cons_of_mem _ i1
      · rw [List.map_cons] at h ⊢
        rcases List.mem_cons.mp h with e | e
        · exact List.mem_cons.mpr (.inl e)
        · exact List.mem_cons_of_mem _ (i2 g e)
theorem length_putF (f : Str) (v : V) : ∀ fs : List (Str × V), (putF f v fs).length ≤ fs.length + 1
  | [] => by simp [putF]
  | (k, x) :: r => by
    have ih := length_putF f v r
    rw [show putF f v ((k, x) :: r) = (if k = f then (k, v) :: r else (k, x) :: putF f v r) from rfl]
    by_cases hk : k = f
    · rw [if_pos hk, List.length_cons, List.length_cons]; omega
    · rw [if_neg hk, List.length_cons, List.length_cons]; omega
theorem RelO.some_of {v : V} {o : Option Value} (r : RelO (some v) o) : ∃ u, o = some u ∧ RelV v u := by
  cases o with
  | none => exact (show False from r).elim
  | some u => exact ⟨u, rfl, r⟩
theorem RelO.none_of {o : Option Value} (r : RelO none o) : o = none := by
  cases o with
  | none => rfl
  | some u => exact (show False from r).elim
theorem handed_of {v : V} {u : Value} (r : RelV v u) : PySem.W.handedIn u = true := by
  cases v with
  | non => cases (show u = Value.none from r); rfl
  | bl b => cases (show u = Value.bool b from r); rfl
  | int i => obtain ⟨t, e⟩ := (show ∃ t, u = Value.int i t from r); cases e; rfl
  | str x => obtain ⟨t, e⟩ := (show ∃ t, u = Value.str x t from r); cases e; rfl
  | byt b => obtain ⟨t, e⟩ := (show ∃ t, u = Value.bytes b t from r); cases e; rfl
  | flt b => obtain ⟨t, e⟩ := (show ∃ t, u = Value.float b t from r); cases e; rfl
  | ref a => cases (show u = Value.ref a from r); rfl
  | ty n => cases (show u = Value.type n from r); rfl
section
variable {P : Program} {w : World} {H H' : Hp} {h h' : Heap} {a C dx : Addr} {fs fs' : List (Str × V)}
theorem ins_get (hok : HOk P w H h) (e : H a = some (.ins C dx fs)) : ∃ mA, ObjM h a dx C mA ∧ (∀ f, RelO (fs.lookup f) (mA f)) ∧ PySem.Within mA (fs.map (·.1)) ∧ fs.length ≤ 1000 ∧ H dx = some (.own a) := by
  obtain ⟨d, z, ne, ob, mA, n, r, q⟩ := (show ObjOk P w H h a (.ins C dx fs) from hok a _ e)
  exact ⟨mA, ⟨ob, n, ne⟩, r, q, z, d⟩
end
structure Cls (K : PySem.W.Frag) (C : Addr) : Prop where
  pg : PySem.W.plainGet K C Str.empty = true
  hd : PySem.W.hasDictIn K C = true
  po : PySem.W.plainOver K C = true
  sa : PySem.W.findIn K (.ref C) "__setattr__" = some (some (.builtin "object.__setattr__"))
theorem Cls.get {K : PySem.W.Frag} {C : Addr} (c : Cls K C) (f : Str) : PySem.W.plainGet K C f = true := c.pg
def NoAttr (K : PySem.W.Frag) (C : Addr) (f : Str) : Prop := PySem.W.findIn K (.ref C) f = some none
theorem NoAttr.taker {K : PySem.W.Frag} {C : Addr} {f : Str} (n : NoAttr K C f) : PySem.W.takerIn K C f = some none := by
  unfold PySem.W.takerIn
  rw [show PySem.W.findIn K (.ref C) f = some none from n]
  rfl
structure Con (K : PySem.W.Frag) (C : Addr) (f : Str) (v : V) (u : Value) : Prop where
  at_ : PySem.W.findIn K (.ref C) f = some (some u)
  rel : RelV v u
  get : PySem.W.specialIn K u "__get__" = some none
  cp : PySem.W.copiedNames.contains f = false
structure Meth (K : PySem.W.Frag) (C : Addr) (m : Str) (f : Addr) : Prop where
  at_ : PySem.W.findIn K (.ref C) m = some (some (.ref f))
  fn : PySem.W.isFn K (.ref f) = true
  kp : PySem.W.keepIn K (.ref f) = true
section
variable {X : Cx} {pins : List (Addr × Obj)} {σ : St} {H : Hp} {s : Shared} {a C dx : Addr} {fs : List (Str × V)} {f : Str} {v : V} {A : Around} {E : Value → Shared → Prop}
theorem getattr_ok {b : Bool} {Q : Value → Shared → Prop} (I : Inv X pins σ H s) (e : H a = some (.ins C dx fs)) (c : Cls X.K C) (n : NoAttr X.K C f) (l : fs.lookup f = some v)
    (h : ∀ u s', Inv X pins σ H s' → RelV v u → Q u s') : wpAny (model X.prog X.w) A (getAttr (.ref a) f b) Q E s := by
  obtain ⟨mA, O, r, _, _, _⟩ := ins_get I.hok e
  obtain ⟨u, hu, ru⟩ := RelO.some_of (v := v) (o := mA f) (by rw [← l]; exact r f)
  exact get_map I.kIn O (c.get f) c.hd n hu (handed_of ru) (h u _ (I.tok _) ru)
theorem getcon_ok {b : Bool} {u : Value} {Q : Value → Shared → Prop} (I : Inv X pins σ H s) (e : H a = some (.ins C dx fs)) (c : Cls X.K C) (k : Con X.K C f v u) (l : fs.lookup f = none)
    (h : ∀ s', Inv X pins σ H s' → Q u s') : wpAny (model X.prog X.w) A (getAttr (.ref a) f b) Q E s := by
  obtain ⟨mA, O, r, _, _, _⟩ := ins_get I.hok e
  have hn : mA f = none := RelO.none_of (by rw [← l]; exact r f)
  exact get_const I.kIn O (c.get f) c.hd k.at_ k.get k.cp hn (handed_of k.rel) (h _ (I.tok _))
theorem getmeth_ok {m : Str} {g : Addr} {pl : Sem Bool} {Q : Value × List Value → Shared → Prop} (I : Inv X pins σ H s) (e : H a = some (.ins C dx fs)) (c : Cls X.K C) (k : Meth X.K C m g) (l : fs.lookup m = none)
    (h : Q (.ref g, [.ref a]) s) : wpAny (model X.prog X.w) A (getMethod (.ref a) m pl) Q E s := by
  obtain ⟨mA, O, r, _, _, _⟩ := ins_get I.hok e
  have hn : mA m = none := RelO.none_of (by rw [← l]; exact r m)
  exact get_meth I.kIn O (c.get m) k.at_ k.fn hn h
theorem setattr_ok {y : V} {u : Value} {Q : Unit → Shared → Prop} (I : Inv X pins σ H s) (e : H a = some (.ins C dx fs)) (c : Cls X.K C) (n : NoAttr X.K C f) (hl : fs.length < 1000) (ry : RelV y u)
    (h : ∀ s', Inv X pins σ (upd H a (.ins C dx (putF f y fs))) s' → Q () s') : wpAny (model X.prog X.w) A (setAttr (.ref a) f u) Q E s := by
  obtain ⟨mA, O, r, wi, _, ho⟩ := ins_get I.hok e
  have hz : (fs.map (·.1)).length ≤ sizeLine := by rw [List.length_map, sizeLine_eq]; omega
  refine set_map I.kIn O c.sa c.po n.taker c.hd wi hz fun h' O' sb => h _ ?_
  have hd : ∃ o, h'.get? dx = some o := let ⟨o, _, _, e', _⟩ := O'.ns; ⟨o, e'⟩
  refine I.write (x := a) (e := dx) (by rw [e]; exact True.intro) (.inr ho) (fun b q hb z => (sb.2 b hb).trans z) hd ?_
  refine ⟨by rw [upd_ne O.ne]; exact ho, ?_, O.ne, O'.obj, _, O'.ns, fun g => ?_, fun g hg => ?_⟩
  · have := length_putF f y fs; omega
  · show RelO ((putF f y fs).lookup g) (if g = f then some u else mA g)
    rw [lookup_putF]
    by_cases q : g = f
    · rw [if_pos q, if_pos q]; exact ry
    · rw [if_neg q, if_neg q]; exact r g
  · by_cases q : g = f
    · rw [q]; exact (keys_putF f y fs).1
    · refine (keys_putF f y fs).2 g (wi g fun z => hg ?_)
      show (if g = f then some u else mA g) = none
      rw [if_neg q]; exact z
theorem Inv.made (I : Inv X pins σ H s) : Inv X pins σ (upd (upd H s.heap.objs.size (.own (s.heap.objs.size + 1))) (s.heap.objs.size + 1) (.ins C s.heap.objs.size []))
    { s with heap := (s.heap.push PySem.W.emptyDict).push (PySem.W.instObj C s.heap.objs.size) } := by
  have e1 : (s.heap.push PySem.W.emptyDict).get? s.heap.objs.size = some PySem.W.emptyDict := Heap.get?_push_size s.heap rfl
  have e2 : ((s.heap.push PySem.W.emptyDict).push (PySem.W.instObj C s.heap.objs.size)).get? (s.heap.objs.size + 1) = some (PySem.W.instObj C s.heap.objs.size) := by
    have := Heap.get?_push_size (s.heap.push PySem.W.emptyDict) (o := PySem.W.instObj C s.heap.objs.size) rfl
    rwa [Heap.size_push] at this
  have e3 : (s.heap.push PySem.W.emptyDict).Ns s.heap.objs.size (fun _ => none) := ⟨PySem.W.emptyDict, #[], _, e1, rfl, (fun e he => absurd he (by simp)), fun _ => rfl⟩
  have I1 := I.laid (a := s.heap.objs.size) (o := .own (s.heap.objs.size + 1)) (h' := s.heap.push PySem.W.emptyDict) (t' := s.toks) (fun b u q => Heap.get?_push_of_some _ q) (Nat.le_refl _) ⟨_, e1⟩
  refine I1.laid (a := s.heap.objs.size + 1) (o := .ins C s.heap.objs.size []) (t' := s.toks) (fun b u q => Heap.get?_push_of_some _ q) (Nat.le_of_eq (Heap.size_push _ _)) ?_
  have ne : s.heap.objs.size ≠ s.heap.objs.size + 1 := Nat.ne_of_lt (Nat.lt_succ_self _)
  refine ⟨by rw [upd_ne ne, upd_same], Nat.zero_le _, ne, e2, fun _ => none, (Heap.Ns1.of_empty e3).at fun o q => Heap.get?_push_of_some _ q, fun _ => True.intro, fun y hy => absurd rfl hy⟩
theorem attr_of {prog : Program} {w : World} {env : Env} {e : Expr} {f : Str} {pos : Pos} {s : Shared} {Q : Value → Shared → Prop} (hb : attributeBase e f env (eval e env) = eval e env)
    (h : wpAny (model prog w) A (eval e env) (fun o s₁ => wpAny (model prog w) A (getAttr o f true) Q E s₁) E s) : wpAny (model prog w) A (eval (.Attribute e f pos) env) Q E s :=
  Attribute_any_ h (by rw [arm_eval_Attribute, hb])
end
def tFld (K : PySem.W.Frag) (ta : TE) (f : Str) : TE := fun σ H Q => ta σ H fun x H1 => ∃ a C dx fs v, x = .ref a ∧ H1 a = some (.ins C dx fs) ∧ Cls K C ∧ NoAttr K C f ∧ fs.lookup f = some v ∧ Q v H1
def tCon (K : PySem.W.Frag) (ta : TE) (f : Str) : TE := fun σ H Q => ta σ H fun x H1 => ∃ a C dx fs v u, x = .ref a ∧ H1 a = some (.ins C dx fs) ∧ Cls K C ∧ Con K C f v u ∧ fs.lookup f = none ∧ Q v H1
def sFld (K : PySem.W.Frag) (ta tv : TE) (f : Str) : TS := fun D σ H => tv σ H fun y H1 => ta σ H1 fun x H2 => ∃ a C dx fs, x = .ref a ∧ H2 a = some (.ins C dx fs) ∧ Cls K C ∧ NoAttr K C f ∧ fs.length < 1000 ∧
  D.nx σ (upd H2 a (.ins C dx (putF f y fs)))
def InOp (X : Cx) (op : Operator) (rd : V → V → Hp → VK → Prop) : Prop :=
  ∀ (pins : List (Addr × Obj)) (s : Shared) (σ : St) (H : Hp) (x y : V) (u v : Value) (Q : VK), Inv X pins σ H s → RelV x u → RelV y v → rd x y H Q → wpAny (model X.prog X.w) X.A (inplaceOp op u v) (EP X pins σ Q) X.xe s
def sFldAug (K : PySem.W.Frag) (ta tv : TE) (rd : V → V → Hp → VK → Prop) (f : Str) : TS := fun D σ H => ta σ H fun x H1 => ∃ a C dx fs v, x = .ref a ∧ H1 a = some (.ins C dx fs) ∧ Cls K C ∧ NoAttr K C f ∧ fs.lookup f = some v ∧
  tv σ H1 fun y H2 => rd v y H2 fun z H3 => ∃ dx' fs', H3 a = some (.ins C dx' fs') ∧ fs'.length < 1000 ∧ D.nx σ (upd H3 a (.ins C dx' (putF f z fs')))
section
variable {X : Cx} {o e value : Expr} {f : Str} {pos pos' tpos : Pos} {ta tv : TE}
theorem pe_fld (he : PE X e ta) (hb : attributeBase e f X.env (eval e X.env) = eval e X.env) : PE X (.Attribute e f pos) (tFld X.K ta f) := by
  intro pins s σ H Q I h
  refine attr_of hb (thn (he pins s σ H _ I h) fun u s1 ⟨x, H1, I1, rx, a, C, dx, fs, v, ex, ea, c, n, l, q⟩ => ?_)
  subst ex
  obtain rfl : u = Value.ref a := rx
  exact getattr_ok I1 ea c n l fun u' s2 I2 ru => ⟨v, H1, I2, ru, q⟩
theorem pe_con (he : PE X e ta) (hb : attributeBase e f X.env (eval e X.env) = eval e X.env) : PE X (.Attribute e f pos) (tCon X.K ta f) := by
  intro pins s σ H Q I h
  refine attr_of hb (thn (he pins s σ H _ I h) fun u s1 ⟨x, H1, I1, rx, a, C, dx, fs, v, u0, ex, ea, c, k, l, q⟩ => ?_)
  subst ex
  obtain rfl : u = Value.ref a := rx
  exact getcon_ok I1 ea c k l fun s2 I2 => ⟨v, H1, I2, k.rel, q⟩
theorem ps_fld (ha : PE X o ta) (hv : PE X value tv) (hs : swapsWith value (some (.Attribute o f pos')) pos.line X.env = pure false) : PS X (.Assign [.Attribute o f pos'] value pos) (sFld X.K ta tv f) := by
  intro pins s σ H D I h
  refine plainObj_wpAny_Assign_Attribute (thn (hv pins s σ H _ I h) fun u s1 ⟨y, H1, I1, ry, q⟩ => thn (ha pins s1 σ H1 _ I1 q) fun ov s2 ⟨x, H2, I2, rx, a, C, dx, fs, ex, ea, c, n, l, q2⟩ => ?_) hs
  subst ex
  obtain rfl : ov = Value.ref a := rx
  exact setattr_ok I2 ea c n l ry fun s3 I3 => ⟨σ, _, I3, q2⟩
theorem ps_fldaug {op : Operator} {rd : V → V → Hp → VK → Prop} (ha : PE X o ta) (hv : PE X value tv) (hop : InOp X op rd) : PS X (.AugAssign (.Attribute o f tpos) op value pos) (sFldAug X.K ta tv rd f) := by
  intro pins s σ H D I h
  refine wpAny_AugAssign_AttributeAny (thn (ha pins s σ H _ I h) fun ov s1 ⟨x, H1, I1, rx, a, C, dx, fs, v, ex, ea, c, n, l, q⟩ => ?_)
  subst ex
  obtain rfl : ov = Value.ref a := rx
  refine getattr_ok I1 ea c n l fun u s2 I2 ru => thn (hv pins s2 σ H1 _ I2 q) fun w3 s3 ⟨y, H2, I3, ry, q3⟩ => thn (hop pins s3 σ H2 v y u w3 _ I3 ru ry q3) fun w4 s4 ⟨z, H3, I4, rz, dx', fs', ea', l', q4⟩ => ?_
  exact setattr_ok I4 ea' c n l' rz fun s5 I5 => ⟨σ, _, I5, q4⟩
def rAdd : V → V → Hp → VK → Prop := fun x y H Q => ∃ i j, x = .int i ∧ y = .int j ∧ Q (.int (i + j)) H
def rSub : V → V → Hp → VK → Prop := fun x y H Q => ∃ i j, x = .int i ∧ y = .int j ∧ Q (.int (i - j)) H
theorem in_add : InOp X .Add rAdd := by
  rintro pins s σ H x y u v Q I rx ry ⟨i, j, rfl, rfl, q⟩
  obtain ⟨t, rfl⟩ := (show ∃ t, u = Value.int i t from rx)
  obtain ⟨t', rfl⟩ := (show ∃ t', v = Value.int j t' from ry)
  exact PyProof.Rows.iadd_int ⟨.int (i + j), H, I.tok _, ⟨_, rfl⟩, q⟩
theorem in_sub : InOp X .Sub rSub := by
  rintro pins s σ H x y u v Q I rx ry ⟨i, j, rfl, rfl, q⟩
  obtain ⟨t, rfl⟩ := (show ∃ t, u = Value.int i t from rx)
  obtain ⟨t', rfl⟩ := (show ∃ t', v = Value.int j t' from ry)
  exact PyProof.Rows.isub_int ⟨.int (i - j), H, I.tok _, ⟨_, rfl⟩, q⟩
theorem methcall_of {pl : Sem Bool} {m : Str} {apos : Pos} {args : List Expr} {pins : List (Addr × Obj)} {s : Shared} {σ : St} {H : Hp} {Q : Value → Shared → Prop} {te : TE} (he : PE X e te) (I : Inv X pins σ H s)
    (h : te σ H fun x H1 => ∃ a C dx fs g, x = .ref a ∧ H1 a = some (.ins C dx fs) ∧ Cls X.K C ∧ Meth X.K C m g ∧ fs.lookup m = none ∧
      ∀ s1, Inv X pins σ H1 s1 → wpAny (model X.prog X.w) X.A (callWith pos (.ref g) [.ref a] (backTo pos (starEach args X.env)) (backToKw pos (keywordEach [] X.env))) Q X.xe s1)
    (ht : eval (.Call (.Attribute e m apos) args [] pos) X.env = (do
      let ov ← eval e X.env
      standAt apos.atName
      let (f, first) ← holding [ov] (getMethod ov m pl)
      callWith pos f first (backTo pos (starEach args X.env)) (backToKw pos (keywordEach [] X.env)))) :
    wpAny (model X.prog X.w) X.A (eval (.Call (.Attribute e m apos) args [] pos) X.env) Q X.xe s := by
  refine PySem.W.methodCall_KW (pl := pl) (thn (he pins s σ H _ I h) fun u s1 ⟨x, H1, I1, rx, a, C, dx, fs, g, ex, ea, c, k, l, q⟩ => ?_) ht
  subst ex
  obtain rfl : u = Value.ref a := rx
  exact getmeth_ok I1 ea c k l (q s1 I1)
end
section
variable {X : Cx} {pins : List (Addr × Obj)} {σ : St} {H : Hp} {s : Shared} {A : Around} {E : Value → Shared → Prop} {Q : Value → Shared → Prop} {c : Value} {b : Bool}
inductive TyOf (K : PySem.W.Frag) (H : Hp) : V → Value → Prop where
  | non : TyOf K H .non (.type "NoneType")
  | bl (x : Bool) : TyOf K H (.bl x) (.type "bool")
  | int (i : Int) : TyOf K H (.int i) (.type "int")
  | str (x : Str) : TyOf K H (.str x) (.type "str")
  | flt (x : UInt64) : TyOf K H (.flt x) (.type "float")
  | lst {a : Addr} {xs : List V} (e : H a = some (.lst xs)) : TyOf K H (.ref a) (.type "list")
  | frz {a : Addr} {o : Obj} {xs : List V} (e : H a = some (.frz o (.lst xs))) : TyOf K H (.ref a) (.type "list")
  | tup {a : Addr} {xs : List V} (e : H a = some (.tup xs)) : TyOf K H (.ref a) (.type "tuple")
  | dK {a : Addr} {kvs : List (Key × V)} (e : H a = some (.dK kvs)) : TyOf K H (.ref a) (.type "dict")
  | dT {a : Addr} {kvs : List (List Key × V)} (e : H a = some (.dT kvs)) : TyOf K H (.ref a) (.type "dict")
  | ins {a C dx : Addr} {fs : List (Str × V)} (e : H a = some (.ins C dx fs)) (cl : Cls K C) (ha : PySem.W.findIn K (.ref C) "__class__" = some (some (.builtin "object.__class__")))
      (hn : PySem.W.specialIn K (.builtin "object.__class__") "__get__" = some (some (.builtin "getset_descriptor.__get__"))) (htk : PySem.W.takesIn K (.builtin "object.__class__") = some true)
      (hm : PySem.W.mroIn K C (.type "object") = some true) : TyOf K H (.ref a) (.ref C)
theorem isinst_ok {x : V} {u t : Value} (I : Inv X pins σ H s) (rx : RelV x u) (ty : TyOf X.K H x t) (e : PySem.W.kitOne X.K t c = some b) (h : ∀ tk, Q (.bool b) { s with toks := tk }) :
    wpAny (model X.prog X.w) A (call (.builtin "isinstance") [u, c]) Q E s := by
  cases ty with
  | non => cases (show u = Value.none from rx); exact PySem.W.kia_one PySem.W.kitx_none I.kIn True.intro e (fun z => nomatch z) h
  | bl y => cases (show u = Value.bool y from rx); exact PySem.W.kia_one PySem.W.kitx_bool I.kIn True.intro e (fun z => nomatch z) h
  | int i => obtain ⟨t, q⟩ := (show ∃ t, u = Value.int i t from rx); cases q; exact PySem.W.kia_one PySem.W.kitx_int I.kIn True.intro e (fun z => nomatch z) h
  | str y => obtain ⟨t, q⟩ := (show ∃ t, u = Value.str y t from rx); cases q; exact PySem.W.kia_one PySem.W.kitx_str I.kIn True.intro e (fun z => nomatch z) h
  | flt y => obtain ⟨t, q⟩ := (show ∃ t, u = Value.float y t from rx); cases q; exact PySem.W.kia_one PySem.W.kitx_float I.kIn True.intro e (fun z => nomatch z) h
  | @lst a xs ea =>
    cases (show u = Value.ref a from rx)
    obtain ⟨_, _, n, _, h1⟩ := (show ObjOk X.prog X.w H s.heap a (.lst xs) from I.hok a _ ea)
    exact PySem.W.kia_one PySem.W.kitx_list I.kIn ⟨_, h1, rfl⟩ e (fun z => nomatch z) h
  | @frz a ob xs ea =>
    cases (show u = Value.ref a from rx)
    obtain ⟨_, _, _, n, _, h1⟩ := (show ObjOk X.prog X.w H s.heap a (.frz ob (.lst xs)) from I.hok a _ ea)
    exact PySem.W.kia_one PySem.W.kitx_list I.kIn ⟨_, h1, rfl⟩ e (fun z => nomatch z) h
  | @tup a xs ea =>
    cases (show u = Value.ref a from rx)
    obtain ⟨_, _, _, p⟩ := (show ObjOk X.prog X.w H s.heap a (.tup xs) from I.hok a _ ea)
    obtain ⟨o, h1, h2, _⟩ := p
    exact PySem.W.kia_one PySem.W.kitx_tuple I.kIn ⟨o, h1, h2⟩ e (fun z => nomatch z) h
  | @dK a kvs ea =>
    cases (show u = Value.ref a from rx)
    obtain ⟨_, _, vs, _, p⟩ := (show ObjOk X.prog X.w H s.heap a (.dK kvs) from I.hok a _ ea)
    obtain ⟨o, es, ep, h1, h2, _⟩ := p
    exact PySem.W.kia_one PySem.W.kitx_dict I.kIn ⟨o, h1, h2.1⟩ e (fun z => nomatch z) h
  | @dT a kvs ea =>
    cases (show u = Value.ref a from rx)
    obtain ⟨_, _, xs, _, o, es, ep, h1, h2, _⟩ := (show ObjOk X.prog X.w H s.heap a (.dT kvs) from I.hok a _ ea)
    exact PySem.W.kia_one PySem.W.kitx_dict I.kIn ⟨o, h1, h2.1⟩ e (fun z => nomatch z) h
  | @ins a C dx fs ea cl ha hn htk hm =>
    cases (show u = Value.ref a from rx)
    obtain ⟨mA, O, _⟩ := ins_get I.hok ea
    obtain ⟨od, J, _⟩ := O.look
    exact PySem.W.kia_one (PySem.W.kitx_own (cl.get _) cl.hd ha hn htk hm) I.kIn J e (fun z => nomatch z) h
end
end L2
namespace L2
open PySem PySem.Spec PyProof.Rows
structure Room (k : Nat) (A : Around) : Prop where
  hd : A.handled = none
  dp : A.depth + 3 * k + 5 < recursionLimit
  un : A.units + 16 * k + 200 < cLine
theorem Room.mono {j k : Nat} {A : Around} (r : Room k A) (h : j ≤ k) : Room j A := ⟨r.hd, by have := r.dp; omega, by have := r.un; omega⟩
theorem Room.deeper {k : Nat} {A : Around} (r : Room (k + 1) A) (env : Env) : Room k (A.deeper env) :=
  ⟨r.hd, by have := r.dp; show A.depth + 1 + 3 * k + 5 < _; omega, by have := r.un; show A.units + 3 + 16 * k + 200 < _; omega⟩
theorem Room.in1 {k : Nat} {A : Around} (r : Room (k + 1) A) : Room k A.in1 :=
  ⟨r.hd, by have := r.dp; show A.depth + 3 * k + 5 < _; omega, by have := r.un; show A.units + 1 + 16 * k + 200 < _; omega⟩
theorem make_depth {A : Around} {C : Addr} {us : List Value} {kw : List (Str × Value)} : (A.under (.builtin "type.__call__" ⟨.ref C :: us, kw⟩)).depth = A.depth + 1 := by
  first | rfl | simp [Around.under, Code.weight, Code.isCreation, Code.isGuard, Code.isCaller, Code.frames, Code.isFrame, guardIds]
theorem make_units {A : Around} {C : Addr} {us : List Value} {kw : List (Str × Value)} : (A.under (.builtin "type.__call__" ⟨.ref C :: us, kw⟩)).units = A.units + 1 := by
  first | rfl | simp [Around.under, Code.cUnits, Code.frames, Code.isFrame]
theorem Room.make {k : Nat} {A : Around} (r : Room (k + 1) A) (C : Addr) (us : List Value) (kw : List (Str × Value)) : Room k (A.under (.builtin "type.__call__" ⟨.ref C :: us, kw⟩)) :=
  ⟨r.hd, by have := r.dp; rw [make_depth]; omega, by have := r.un; rw [make_units]; omega⟩
theorem Room.depth {k : Nat} {A : Around} (r : Room k A) : A.depth < recursionLimit := by have := r.dp; omega
theorem Room.units {k : Nat} {A : Around} (r : Room k A) : A.units + 64 < cLine := by have := r.un; omega
theorem Room.units0 {k : Nat} {A : Around} (r : Room k A) : A.units < cLine := by have := r.un; omega
def tNil : TA := fun _ H Q => Q [] H
def tCons (ta : TE) (tr : TA) : TA := fun σ H Q => ta σ H fun x H1 => tr σ H1 fun xs H2 => Q (x :: xs) H2
section
variable {X : Cx} {e : Expr} {es : List Expr} {te : TE} {t : TA} {pos : Pos}
theorem pa_nil : PA X [] tNil := fun _ _ _ _ H Q I h => Calls.spliced_nil ⟨[], H, I, .nil, h⟩
theorem pa_cons (ha : PE X e te) (hr : PA X es t) (hs : starEach (e :: es) X.env = (false, eval e X.env) :: starEach es X.env := by rfl) : PA X (e :: es) (tCons te t) := by
  intro pos pins s σ H Q I h
  rw [hs]
  show wpAny _ _ (spliced ((false, eval e X.env) :: backTo pos (starEach es X.env))) _ _ s
  refine Calls.spliced_cons (thn (ha pins s σ H _ I h) fun u s1 ⟨x, H1, I1, r1, q1⟩ => ?_)
  exact thn (hr pos pins s1 σ H1 _ I1 q1) fun us s2 ⟨xs, H2, I2, r2, q2⟩ => ⟨x :: xs, H2, I2, .cons r1 r2, q2⟩
def tTup (t : TA) : TE := fun σ H Q => t σ H fun xs H1 => xs.length ≤ sizeLine ∧ ∀ p, H1 p = none → Q (.ref p) (upd H1 p (.tup xs))
def tLst (t : TA) : TE := fun σ H Q => t σ H fun xs H1 => xs.length ≤ sizeLine ∧ ∀ p, H1 p = none → Q (.ref p) (upd H1 p (.lst xs))
theorem pe_tup {x1} (h : PA X es t) : PE X (.Tuple es x1 pos) (tTup t) := by
  intro pins s σ H Q I hq
  refine wpAny_Tuple_spliced (thn (h pos pins s σ H _ I hq) fun us s1 ⟨xs, H1, I1, r, z, q⟩ => ⟨by rw [← r.length]; exact z, ?_⟩)
  have hf : H1 s1.heap.objs.size = none := I1.hok.fresh (Nat.le_refl _)
  refine ⟨.ref s1.heap.objs.size, upd H1 s1.heap.objs.size (.tup xs), I1.laid (t' := s1.toks) (fun b u e => Heap.get?_push_of_some _ e) (Nat.le_refl _) ?_, rfl, q _ hf⟩
  exact ⟨z, us, r, ⟨_, Heap.get?_push_size _ rfl, rfl, _, rfl⟩⟩
theorem pe_lst (h : PA X es t) : PE X (.List es pos) (tLst t) := by
  intro pins s σ H Q I hq
  refine wpAny_List_spliced (thn (h pos pins s σ H _ I hq) fun us s1 ⟨xs, H1, I1, r, z, q⟩ => ⟨by rw [← r.length]; exact z, ?_⟩)
  have hf : H1 s1.heap.objs.size = none := I1.hok.fresh (Nat.le_refl _)
  refine ⟨.ref s1.heap.objs.size, upd H1 s1.heap.objs.size (.lst xs), I1.laid (t' := s1.toks) (fun b u e => Heap.get?_push_of_some _ e) (Nat.le_refl _) ?_, rfl, q _ hf⟩
  exact ⟨z, us, 0, r, Heap.get?_push_size _ rfl⟩
end
abbrev Sp := List V → Hp → VK → XK → Prop
abbrev CXT := List Env → Hp → Shared → XK → Value → Shared → Prop
structure Env0 (P : Program) (w : World) (K : PySem.W.Frag) (mg : Str → Option Value) (base : Heap) (A : Around) (outer : List Env) (s : Shared) (H : Hp) : Prop where
  frames : A.frames = some outer
  mod : Mod K mg base
  bs : ∀ b o, base.get? b = some o → s.heap.get? b = some o ∧ H b = none
  bsz : base.objs.size ≤ s.heap.objs.size
  funs : s.heap.FunFrames base outer
  frf : ∀ b ∈ frs outer, H b = none
  hok : HOk P w H s.heap
  bare : AllBare s.gens
def CE (outer : List Env) (P : Program) (w : World) (H : Hp) (s : Shared) (Q : VK) (u : Value) (s' : Shared) : Prop :=
  ∃ v H', s'.os = s.os ∧ AllBare s'.gens ∧ Un (frs outer) [] H H' s.heap s'.heap ∧ HOk P w H' s'.heap ∧ RelV v u ∧ Q v H'
def CR (CX : CXT) (outer : List Env) (P : Program) (w : World) (H : Hp) (s : Shared) (Q : VK) (E : XK) (r : Result) (s' : Shared) : Prop :=
  match r with
  | .ok (.ret u) => CE outer P w H s Q u s'
  | .ok _ => False
  | .error e => CX outer H s E e s'
structure FnOk (P : Program) (w : World) (K : PySem.W.Frag) (mg : Str → Option Value) (base : Heap) (CX : CXT) (k : Nat) (f : Addr) (fd : FuncData) (ps : List Str) (sp : Sp) : Prop where
  len : ∀ vs H Q E, sp vs H Q E → vs.length = ps.length
  run : ∀ (A : Around) (outer : List Env) (s : Shared) (H : Hp) (args : Args) (us : List Value) (vs : List V) (Q : VK) (E : XK), Room k A → Env0 P w K mg base A outer s H → BindsTo s fd args (ps.zip us) → Vals vs us → sp vs H Q E →
    codeAny (model P w) A (.call (.ref f) args) (CR CX outer P w H s Q E) s
theorem FnOk.mono {P : Program} {w : World} {K : PySem.W.Frag} {mg : Str → Option Value} {base : Heap} {CX : CXT} {j k : Nat} {f : Addr} {fd : FuncData} {ps : List Str} {sp : Sp} (F : FnOk P w K mg base CX j f fd ps sp) (h : j ≤ k) :
    FnOk P w K mg base CX k f fd ps sp := ⟨F.len, fun A outer s H args us vs Q E hr => F.run A outer s H args us vs Q E (hr.mono h)⟩
theorem FnOk.imp {P : Program} {w : World} {K : PySem.W.Frag} {mg : Str → Option Value} {base : Heap} {CX : CXT} {k : Nat} {f : Addr} {fd : FuncData} {ps : List Str} {sp sp' : Sp} (F : FnOk P w K mg base CX k f fd ps sp)
    (h : ∀ vs H Q E, sp' vs H Q E → sp vs H Q E) : FnOk P w K mg base CX k f fd ps sp' :=
  ⟨fun vs H Q E q => F.len vs H Q E (h _ _ _ _ q), fun A outer s H args us vs Q E hr he hb hv hs => F.run A outer s H args us vs Q E hr he hb hv (h _ _ _ _ hs)⟩
theorem Env0.make {P : Program} {w : World} {K : PySem.W.Frag} {mg : Str → Option Value} {base : Heap} {A : Around} {outer : List Env} {s : Shared} {H : Hp} (e : Env0 P w K mg base A outer s H) (C : Addr) (us : List Value) (kw : List (Str × Value)) :
    Env0 P w K mg base (A.under (.builtin "type.__call__" ⟨.ref C :: us, kw⟩)) outer s H := ⟨by first | exact e.frames | (simpa [Around.under, Code.envs, Code.isFrame, pushEnvs] using e.frames), e.mod, e.bs, e.bsz, e.funs, e.frf, e.hok, e.bare⟩
theorem Env0.in1 {P : Program} {w : World} {K : PySem.W.Frag} {mg : Str → Option Value} {base : Heap} {A : Around} {outer : List Env} {s : Shared} {H : Hp} (e : Env0 P w K mg base A outer s H) :
    Env0 P w K mg base A.in1 outer s H := ⟨e.frames, e.mod, e.bs, e.bsz, e.funs, e.frf, e.hok, e.bare⟩
section
variable {X : Cx} {pins : List (Addr × Obj)} {σ : St} {H : Hp} {s s' : Shared}
theorem Inv.env0 (I : Inv X pins σ H s) : Env0 X.prog X.w X.K X.mg X.base X.A X.stack s H :=
  ⟨I.ok.frames, I.ok.mod, I.bs, Nat.le_trans I.ok.bsz I.sz, I.stack, I.stkFree, I.hok, I.bare⟩
theorem Inv.after {Q : VK} {u : Value} (I : Inv X pins σ H s) (h : CE X.stack X.prog X.w H s Q u s') : EP X pins σ Q u s' := by
  obtain ⟨v, H', os, bare, un, hok, r, q⟩ := h
  obtain ⟨hh, g, d, t, os'⟩ := s'
  obtain rfl : os' = s.os := os
  exact ⟨v, H', I.call (h' := hh) (g' := g) (d' := d) (t' := t) (ch := []) un hok bare (fun b z => absurd z (by simp)), r, q⟩
end
def tCall (sp : Sp) (dvs : List V) (E : XK) (t : TA) : TE := fun σ H Q => t σ H fun vs H1 => sp (vs ++ dvs) H1 Q E
def tMeth (C : Addr) (m : Str) (sp : Sp) (dvs : List V) (E : XK) (ta : TE) (t : TA) : TE := fun σ H Q => ta σ H fun x H1 => ∃ a dx fs, x = .ref a ∧ H1 a = some (.ins C dx fs) ∧ fs.lookup m = none ∧
  t σ H1 fun vs H2 => sp (x :: (vs ++ dvs)) H2 Q E
def tMake (C : Addr) (sp : Sp) (dvs : List V) (E : XK) (t : TA) : TE := fun σ H Q => t σ H fun vs H1 => ∀ x dx, H1 x = none → H1 dx = none → dx ≠ x →
  sp (.ref x :: (vs ++ dvs)) (upd (upd H1 dx (.own x)) x (.ins C dx [])) (fun v H2 => v = .non ∧ Q (.ref x) H2) E
def Binds (K : PySem.W.Frag) (fd : FuncData) (ps : List Str) (ds : List Value) : Prop :=
  ∀ (s : Shared) (us : List Value), K.In s.heap → (us ++ ds).length = ps.length → BindsTo s fd ⟨us, []⟩ (ps.zip (us ++ ds))
theorem Binds.all {K : PySem.W.Frag} {fd : FuncData} {ps : List Str} (h : ∀ us : List Value, us.length = ps.length → bindArgs fd ⟨us, []⟩ = pure (ps.zip us)) : Binds K fd ps [] := fun s us _ hl => by
  rw [List.append_nil] at hl ⊢
  exact .of_eq (h us hl)
def Passes (CX : CXT) (X : Cx) (E : XK) : Prop := ∀ (pins : List (Addr × Obj)) (σ : St) (H : Hp) (s : Shared) (e : Value) (s' : Shared), Inv X pins σ H s → CX X.stack H s E e s' → X.xe e s'
section
variable {X : Cx} {CX : CXT} {k : Nat} {f C : Addr} {fd : FuncData} {ps : List Str} {sp : Sp} {dvs : List V} {ds : List Value} {E : XK} {x m : Str} {p pos apos : Pos} {e o : Expr} {es : List Expr} {ta : TE} {t : TA}
theorem run_fn {pins : List (Addr × Obj)} {σ : St} {H : Hp} {s : Shared} {Q : VK} {us : List Value} {vs : List V} (F : FnOk X.prog X.w X.K X.mg X.base CX k f fd ps sp) (hr : Room k X.A) (hb : Binds X.K fd ps ds) (hd : Vals dvs ds) (hx : Passes CX X E)
    (I : Inv X pins σ H s) (r : Vals vs us) (h : sp (vs ++ dvs) H Q E) : wpAny (model X.prog X.w) X.A (call (.ref f) us) (EP X pins σ Q) X.xe s := by
  have r2 : Vals (vs ++ dvs) (us ++ ds) := r.append hd
  have hl : (us ++ ds).length = ps.length := by rw [← r2.length]; exact F.len _ _ _ _ h
  refine wpAny_call (codeAny_mono (F.run X.A X.stack s H ⟨us, []⟩ (us ++ ds) (vs ++ dvs) Q E hr I.env0 (hb s us I.kIn hl) r2 h) fun r s' hq => ?_)
  cases r with
  | error e => exact hx pins σ H s e s' I hq
  | ok fl =>
    cases fl with
    | ret u => exact I.after hq
    | next => exact False.elim hq
    | brk => exact False.elim hq
    | cont => exact False.elim hq
theorem pe_call (F : FnOk X.prog X.w X.K X.mg X.base CX k f fd ps sp) (hr : Room k X.A) (hg : Gl X x) (hm : X.mg x = some (.ref f)) (hk : PySem.W.keepIn X.K (.ref f) = true) (hb : Binds X.K fd ps ds) (hd : Vals dvs ds) (hx : Passes CX X E)
    (ha : PA X (e :: es) t) (hdb : (x == ("__debug__" : Str)) = false := by decide) (he : starEach (e :: es) X.env = (false, eval e X.env) :: starEach es X.env := by rfl) (hpl : (backTo pos (starEach es X.env)).any (·.1) = false := by rfl) :
    PE X (.Call (.Name x p) (e :: es) [] pos) (tCall sp dvs E t) := by
  intro pins s σ H Q I h
  refine wpAny_Call_Name_kw (ld_glob I hg hm ?_ hdb)
  refine PySem.W.callWith_K (h₀ := X.base) I.ok.mod.kin hk (thn (ha pos pins s σ H _ I h) fun us s1 ⟨vs, H1, I1, r, q⟩ => ⟨I1.kIn, ?_⟩) he hpl
  exact run_fn F hr hb hd hx I1 r q
theorem pe_call0 (F : FnOk X.prog X.w X.K X.mg X.base CX k f fd ps sp) (hr : Room k X.A) (hg : Gl X x) (hm : X.mg x = some (.ref f)) (hk : PySem.W.keepIn X.K (.ref f) = true) (hb : Binds X.K fd ps ds) (hd : Vals dvs ds) (hx : Passes CX X E)
    (hdb : (x == ("__debug__" : Str)) = false := by decide) : PE X (.Call (.Name x p) [] [] pos) (tCall sp dvs E tNil) := by
  intro pins s σ H Q I h
  refine wpAny_Call_Name_kw (ld_glob I hg hm ?_ hdb)
  exact PySem.W.callWith_K0 I.kIn hk (run_fn (us := []) F hr hb hd hx I .nil h)
theorem pe_meth {pl : Sem Bool} (he : PE X o ta) (c : Cls X.K C) (hm : Meth X.K C m f) (F : FnOk X.prog X.w X.K X.mg X.base CX k f fd ps sp) (hr : Room k X.A) (hb : Binds X.K fd ps ds) (hd : Vals dvs ds) (hx : Passes CX X E) (ha : PA X (e :: es) t)
    (hst : starEach (e :: es) X.env = (false, eval e X.env) :: starEach es X.env := by rfl) (hpl : (backTo pos (starEach es X.env)).any (·.1) = false := by rfl)
    (ht : eval (.Call (.Attribute o m apos) (e :: es) [] pos) X.env = (do
      let ov ← eval o X.env
      standAt apos.atName
      let (f, first) ← holding [ov] (getMethod ov m pl)
      callWith pos f first (backTo pos (starEach (e :: es) X.env)) (backToKw pos (keywordEach [] X.env))) := by rfl) :
    PE X (.Call (.Attribute o m apos) (e :: es) [] pos) (tMeth C m sp dvs E ta t) := by
  intro pins s σ H Q I h
  refine PySem.W.methodCall_KW (pl := pl) (thn (he pins s σ H _ I h) fun u s1 ⟨x, H1, I1, rx, a, dx, fs, ex, ea, l, q⟩ => ?_) ht
  subst ex
  obtain rfl : u = Value.ref a := rx
  refine getmeth_ok I1 ea c hm l ?_
  refine PySem.W.callWith_K (first := [.ref a]) (h₀ := X.base) I.ok.mod.kin hm.kp (thn (ha pos pins s1 σ H1 _ I1 q) fun us s2 ⟨vs, H2, I2, r, q2⟩ => ⟨I2.kIn, ?_⟩) hst hpl
  exact run_fn (us := .ref a :: us) (vs := .ref a :: vs) F hr hb hd hx I2 (.cons rfl r) q2
theorem pe_meth0 {pl : Sem Bool} (he : PE X o ta) (c : Cls X.K C) (hm : Meth X.K C m f) (F : FnOk X.prog X.w X.K X.mg X.base CX k f fd ps sp) (hr : Room k X.A) (hb : Binds X.K fd ps ds) (hd : Vals dvs ds) (hx : Passes CX X E)
    (ht : eval (.Call (.Attribute o m apos) [] [] pos) X.env = (do
      let ov ← eval o X.env
      standAt apos.atName
      let (f, first) ← holding [ov] (getMethod ov m pl)
      callWith pos f first (backTo pos (starEach [] X.env)) (backToKw pos (keywordEach [] X.env))) := by rfl) :
    PE X (.Call (.Attribute o m apos) [] [] pos) (tMeth C m sp dvs E ta tNil) := by
  intro pins s σ H Q I h
  refine PySem.W.methodCall_KW (pl := pl) (thn (he pins s σ H _ I h) fun u s1 ⟨x, H1, I1, rx, a, dx, fs, ex, ea, l, q⟩ => ?_) ht
  subst ex
  obtain rfl : u = Value.ref a := rx
  refine getmeth_ok I1 ea c hm l ?_
  exact PySem.W.callWith_K0 (first := [.ref a]) I1.kIn hm.kp (run_fn (us := [.ref a]) (vs := [.ref a]) F hr hb hd hx I1 (.cons rfl .nil) q)
structure Mk (K : PySem.W.Frag) (C f : Addr) : Prop where
  makes : PySem.W.makesIn K C = true
  init : PySem.W.findIn K (.ref C) "__init__" = some (some (.ref f))
  fn : PySem.W.isFn K (.ref f) = true
  kp : PySem.W.keepIn K (.ref C) = true
theorem run_make {pins : List (Addr × Obj)} {σ : St} {H : Hp} {s : Shared} {Q : VK} {us : List Value} {vs : List V} (M : Mk X.K C f) (F : FnOk X.prog X.w X.K X.mg X.base CX k f fd ps sp) (hr : Room (k + 1) X.A) (hb : Binds X.K fd ps ds) (hd : Vals dvs ds)
    (hx : Passes CX X E) (I : Inv X pins σ H s) (r : Vals vs us)
    (h : ∀ x dx, H x = none → H dx = none → dx ≠ x → sp (.ref x :: (vs ++ dvs)) (upd (upd H dx (.own x)) x (.ins C dx [])) (fun v H2 => v = .non ∧ Q (.ref x) H2) E) :
    wpAny (model X.prog X.w) X.A (call (.ref C) us) (EP X pins σ Q) X.xe s := by
  have hq := h (s.heap.objs.size + 1) s.heap.objs.size (I.hok.fresh (Nat.le_succ _)) (I.hok.fresh (Nat.le_refl _)) (Nat.ne_of_lt (Nat.lt_succ_self _))
  have I2 := Inv.made (C := C) I
  have r2 : Vals (V.ref (s.heap.objs.size + 1) :: (vs ++ dvs)) (Value.ref (s.heap.objs.size + 1) :: (us ++ ds)) := .cons rfl (r.append hd)
  have hl : (Value.ref (s.heap.objs.size + 1) :: us ++ ds).length = ps.length := by
    have e := r2.length
    rw [F.len _ _ _ _ hq] at e
    exact e.symm
  refine wpAny_call (make_map (f := f) I.kIn M.makes M.init (beq_iff_eq.mp M.fn) (codeAny_mono (F.run _ X.stack _ _ ⟨Value.ref (s.heap.objs.size + 1) :: us, []⟩ (Value.ref (s.heap.objs.size + 1) :: (us ++ ds)) _ _ E (hr.make C us [])
    (I2.env0.make C us []) (hb _ (Value.ref (s.heap.objs.size + 1) :: us) I2.kIn hl) r2 hq) fun r s' hq' => ?_))
  cases r with
  | error e => exact hx pins σ _ _ e s' I2 hq'
  | ok fl =>
    cases fl with
    | ret u =>
      obtain ⟨v, H', I3, rv, ev, q3⟩ := I2.after hq'
      subst ev
      exact ⟨rv, ⟨V.ref (s.heap.objs.size + 1), H', I3, rfl, q3⟩⟩
    | next => exact False.elim hq'
    | brk => exact False.elim hq'
    | cont => exact False.elim hq'
theorem pe_make (M : Mk X.K C f) (F : FnOk X.prog X.w X.K X.mg X.base CX k f fd ps sp) (hr : Room (k + 1) X.A) (hg : Gl X x) (hm : X.mg x = some (.ref C)) (hb : Binds X.K fd ps ds) (hd : Vals dvs ds) (hx : Passes CX X E)
    (ha : PA X (e :: es) t) (hdb : (x == ("__debug__" : Str)) = false := by decide) (he : starEach (e :: es) X.env = (false, eval e X.env) :: starEach es X.env := by rfl) (hpl : (backTo pos (starEach es X.env)).any (·.1) = false := by rfl) :
    PE X (.Call (.Name x p) (e :: es) [] pos) (tMake C sp dvs E t) := by
  intro pins s σ H Q I h
  refine wpAny_Call_Name_kw (ld_glob I hg hm ?_ hdb)
  refine PySem.W.callWith_K (h₀ := X.base) I.ok.mod.kin M.kp (thn (ha pos pins s σ H _ I h) fun us s1 ⟨vs, H1, I1, r, q⟩ => ⟨I1.kIn, ?_⟩) he hpl
  exact run_make M F hr hb hd hx I1 r q
theorem pe_make0 (M : Mk X.K C f) (F : FnOk X.prog X.w X.K X.mg X.base CX k f fd ps sp) (hr : Room (k + 1) X.A) (hg : Gl X x) (hm : X.mg x = some (.ref C)) (hb : Binds X.K fd ps ds) (hd : Vals dvs ds) (hx : Passes CX X E)
    (hdb : (x == ("__debug__" : Str)) = false := by decide) : PE X (.Call (.Name x p) [] [] pos) (tMake C sp dvs E tNil) := by
  intro pins s σ H Q I h
  refine wpAny_Call_Name_kw (ld_glob I hg hm ?_ hdb)
  exact PySem.W.callWith_K0 I.kIn M.kp (run_make (us := []) M F hr hb hd hx I .nil h)
end
def PK (X : Cx) (kws : List Keyword) (t : TA) : Prop :=
  ∀ (pos : Pos) (pins : List (Addr × Obj)) (s : Shared) (σ : St) (H : Hp) (Q : List V → Hp → Prop), Inv X pins σ H s → t σ H Q → wpAny (model X.prog X.w) X.A (evalAll ((backToKw pos (keywordEach kws X.env)).map (·.2))) (AP X pins σ Q) X.xe s
section
variable {X : Cx} {CX : CXT} {k : Nat} {f C : Addr} {fd : FuncData} {ps ks : List Str} {sp : Sp} {E : XK} {x m : Str} {p pos apos kpos : Pos} {e o : Expr} {es : List Expr} {kws : List Keyword} {te ta : TE} {t tk : TA} {nm : Option Str}
theorem pk_nil : PK X [] tNil := fun _ _ _ _ H Q I h => wpAny_evalAll_nil ⟨[], H, I, .nil, h⟩
theorem pk_cons (ha : PE X e te) (hr : PK X kws t) : PK X (⟨nm, e, kpos⟩ :: kws) (tCons te t) := by
  intro pos pins s σ H Q I h
  show wpAny _ _ (evalAll ((do let v ← eval e X.env; standAt pos; pure v) :: (backToKw pos (keywordEach kws X.env)).map (·.2))) _ _ s
  refine wpAny_evalAll_cons (wpAny_bind (thn (ha pins s σ H _ I h) fun u s1 ⟨x, H1, I1, r1, q1⟩ => wpAny_bind (wpAny_standAt (wpAny_pure ?_))))
  exact thn (hr pos pins s1 σ H1 _ I1 q1) fun us s2 ⟨xs, H2, I2, r2, q2⟩ => ⟨x :: xs, H2, I2, .cons r1 r2, q2⟩
structure KBinds (K : PySem.W.Frag) (fd : FuncData) (ps ks : List Str) (g : List Value → List Value → List Value) (gV : List V → List V → List V) : Prop where
  to : ∀ (s : Shared) (us ws : List Value), K.In s.heap → (g us ws).length = ps.length → BindsTo s fd ⟨us, ks.zip ws⟩ (ps.zip (g us ws))
  rel : ∀ {vs : List V} {us : List Value} {zs : List V} {ws : List Value}, Vals vs us → Vals zs ws → Vals (gV vs zs) (g us ws)
def tCallK (sp : Sp) (gV : List V → List V → List V) (E : XK) (t tk : TA) : TE := fun σ H Q => t σ H fun vs H1 => tk σ H1 fun zs H2 => sp (gV vs zs) H2 Q E
variable {g : List Value → List Value → List Value} {gV : List V → List V → List V}
theorem run_fnk {pins : List (Addr × Obj)} {σ : St} {H : Hp} {s : Shared} {Q : VK} {us ws : List Value} {vs zs : List V} (F : FnOk X.prog X.w X.K X.mg X.base CX k f fd ps sp) (hr : Room k X.A) (hb : KBinds X.K fd ps ks g gV) (hx : Passes CX X E)
    (I : Inv X pins σ H s) (r : Vals vs us) (rz : Vals zs ws) (h : sp (gV vs zs) H Q E) : wpAny (model X.prog X.w) X.A (call (.ref f) us (ks.zip ws)) (EP X pins σ Q) X.xe s := by
  have r2 := hb.rel r rz
  have hl : (g us ws).length = ps.length := by rw [← r2.length]; exact F.len _ _ _ _ h
  refine wpAny_call (codeAny_mono (F.run X.A X.stack s H ⟨us, ks.zip ws⟩ (g us ws) (gV vs zs) Q E hr I.env0 (hb.to s us ws I.kIn hl) r2 h) fun r s' hq => ?_)
  cases r with
  | error e => exact hx pins σ H s e s' I hq
  | ok fl =>
    cases fl with
    | ret u => exact I.after hq
    | next => exact False.elim hq
    | brk => exact False.elim hq
    | cont => exact False.elim hq
theorem pe_callK (F : FnOk X.prog X.w X.K X.mg X.base CX k f fd ps sp) (hr : Room k X.A) (hg : Gl X x) (hm : X.mg x = some (.ref f)) (hk : PySem.W.keepIn X.K (.ref f) = true) (hb : KBinds X.K fd ps ks g gV) (hx : Passes CX X E)
    (ha : PA X (e :: es) t) (hkw : PK X kws tk) (hall : (backToKw pos (keywordEach kws X.env)).all (·.1.isSome) = true := by rfl) (hks : (backToKw pos (keywordEach kws X.env)).filterMap (·.1) = ks := by rfl)
    (hdb : (x == ("__debug__" : Str)) = false := by decide) (he : starEach (e :: es) X.env = (false, eval e X.env) :: starEach es X.env := by rfl)
    (hpl : ((backTo pos (starEach (e :: es) X.env)).any (·.1) || (backToKw pos (keywordEach kws X.env)).any (·.1.isNone)) = false := by rfl) :
    PE X (.Call (.Name x p) (e :: es) kws pos) (tCallK sp gV E t tk) := by
  intro pins s σ H Q I h
  refine wpAny_Call_Name_kw (ld_glob I hg hm ?_ hdb)
  refine PySem.W.callWith_KW (h₀ := X.base) I.ok.mod.kin hk hall (thn (ha pos pins s σ H _ I h) fun us s1 ⟨vs, H1, I1, r, q⟩ => ?_) hpl he
  refine thn (hkw pos pins s1 σ H1 _ I1 q) fun ws s2 ⟨zs, H2, I2, rz, q2⟩ => ⟨I2.kIn, ?_⟩
  rw [hks]
  exact run_fnk F hr hb hx I2 r rz q2
end
structure FnScope (N P : List Str) (sc : Scope) : Prop where
  kind : sc.kind = .function
  co : sc.isCoroutine = false
  gen : sc.isGenerator = false
  nd : N.Nodup
  pre : N.take P.length = P
  par : ∀ x ∈ P, sc.names.lookup x = some .local ∨ sc.names.lookup x = some .cell
  nofree : ∀ y ∈ sc.names, y.2 ≠ .free
theorem bindL_out {kindOf : Str → Option NameKind} {x : Str} : ∀ {binds : List (Str × Value)} {m : Str → Option Value}, (∀ v, (x, v) ∉ binds) → bindL kindOf binds m x = m x
  | [], _, _ => rfl
  | (n, v) :: r, m, h => by
    unfold bindL
    rw [bindL_out fun w hw => h w (List.mem_cons_of_mem _ hw)]
    split
    · have : x ≠ n := by rintro rfl; exact h v List.mem_cons_self
      simp [this]
    · rfl
theorem bindC_out {kindOf : Str → Option NameKind} {x : Str} : ∀ {binds : List (Str × Value)} {m : Str → Option Value}, (∀ v, (x, v) ∉ binds) → bindC kindOf binds m x = m x
  | [], _, _ => rfl
  | (n, v) :: r, m, h => by
    unfold bindC
    rw [bindC_out fun w hw => h w (List.mem_cons_of_mem _ hw)]
    split
    · rfl
    · have : x ≠ n := by rintro rfl; exact h v List.mem_cons_self
      simp [this]
theorem bindL_get {kindOf : Str → Option NameKind} {x : Str} {v : Value} : ∀ {P : List Str} {vs : List Value} {i : Nat} {m : Str → Option Value}, P.Nodup → P[i]? = some x → vs[i]? = some v → kindOf x = some .local →
    bindL kindOf (P.zip vs) m x = some v
  | [], _, _, _, _, h, _, _ => by simp at h
  | _ :: _, [], _, _, _, _, h, _ => by simp at h
  | p :: P, w :: vs, 0, m, nd, h1, h2, hk => by
    simp at h1 h2; subst h1; subst h2
    show bindL kindOf ((p, w) :: P.zip vs) m p = _
    unfold bindL
    rw [bindL_out fun v hv => (List.nodup_cons.mp nd).1 (List.of_mem_zip hv).1, if_pos hk]
    simp
  | p :: P, w :: vs, i + 1, m, nd, h1, h2, hk => by
    show bindL kindOf ((p, w) :: P.zip vs) m x = _
    unfold bindL
    exact bindL_get (i := i) (List.nodup_cons.mp nd).2 (by simpa using h1) (by simpa using h2) hk
theorem bindC_get {kindOf : Str → Option NameKind} {x : Str} {v : Value} : ∀ {P : List Str} {vs : List Value} {i : Nat} {m : Str → Option Value}, P.Nodup → P[i]? = some x → vs[i]? = some v → kindOf x ≠ some .local →
    bindC kindOf (P.zip vs) m x = some v
  | [], _, _, _, _, h, _, _ => by simp at h
  | _ :: _, [], _, _, _, _, h, _ => by simp at h
  | p :: P, w :: vs, 0, m, nd, h1, h2, hk => by
    simp at h1 h2; subst h1; subst h2
    show bindC kindOf ((p, w) :: P.zip vs) m p = _
    unfold bindC
    rw [bindC_out fun v hv => (List.nodup_cons.mp nd).1 (List.of_mem_zip hv).1, if_neg hk]
    simp
  | p :: P, w :: vs, i + 1, m, nd, h1, h2, hk => by
    show bindC kindOf ((p, w) :: P.zip vs) m x = _
    unfold bindC
    exact bindC_get (i := i) (List.nodup_cons.mp nd).2 (by simpa using h1) (by simpa using h2) hk
def start (N : List Str) (vs : List V) : St := vs.map some ++ List.replicate (N.length - vs.length) none
def cxOf (CX : CXT) (P : Program) (w : World) (K : PySem.W.Frag) (mg : Str → Option Value) (base : Heap) (N : List Str) (qual : Str) (scope : Scope) (f : Addr) (cd : Value) (A : Around) (outer : List Env) (s : Shared) (H : Hp) (E : XK) : Cx where
  prog := P
  w := w
  K := K
  mg := mg
  base := base
  A := A.deeper (envOfC qual scope s.heap.objs.size f cd)
  N := N
  s₀ := s
  H₀ := H
  env := envOfC qual scope s.heap.objs.size f cd
  outer := outer
  stack := envOfC qual scope s.heap.objs.size f cd :: outer
  ex := []
  calm := true
  fn := fun _ => true
  pn := []
  xe := fun e s' => wpAny (model P w) (A.deeper (envOfC qual scope s.heap.objs.size f cd)) (leaving (envOfC qual scope s.heap.objs.size f cd) e) (fun _ s'' => CX outer H s E e s'') (fun e' s'' => CX outer H s E e' s'') s'
theorem cell_has {sc : Scope} {n : Nat} {x : Str} (h : sc.names.lookup x = some .cell) : ∃ c, (cellsFrom n sc.names []).lookup x = some c := by
  have q := PySem.W.cellsFrom_some sc.names n [] (.inl h)
  exact Option.isSome_iff_exists.mp q
theorem inv_start {CX : CXT} {P : Program} {w : World} {K : PySem.W.Frag} {mg : Str → Option Value} {base : Heap} {N ps : List Str} {qual : Str} {scope : Scope} {f : Addr} {cd : Value} {A : Around} {outer : List Env} {s s1 : Shared} {H : Hp} {E : XK} {us : List Value} {vs : List V}
    (S : FnScope N ps scope) (hd : A.handled = none) (e0 : Env0 P w K mg base A outer s H) (hl : vs.length = ps.length) (r : Vals vs us)
    (x : InCallC s s.heap.objs.size (bindL (envOfC qual scope s.heap.objs.size f cd).kindOf (ps.zip us) fun _ => none) (cellsFrom (s.heap.objs.size + 1) scope.names []) (bindC (envOfC qual scope s.heap.objs.size f cd).kindOf (ps.zip us) fun _ => none) s1) :
    Inv (cxOf CX P w K mg base N qual scope f cd A outer s H E) [] (start N vs) H s1 := by
  have hpl : ps.length ≤ N.length := by have := congrArg List.length S.pre; rw [List.length_take] at this; omega
  obtain ⟨h1, tk, rfl, hk⟩ := x.done
  have noA : ∀ b : Addr, b ∉ (cxOf CX P w K mg base N qual scope f cd A outer s H E).ex := fun b z => absurd (show b ∈ ([] : List Addr) from z) (by simp)
  refine ⟨⟨e0.mod, S.kind, rfl, rfl, Nat.le_refl _, fun y z c h1 h2 => ?_, fun y hy => ?_, fun y c _ h => ?_, fun _ => hd, Around.frames_deeper e0.frames, .inr ⟨rfl, rfl⟩, fun b z => absurd z (noA b), e0.bs, e0.bsz, fun b _ _ => noA b, fun b z => absurd z (noA b), e0.funs, e0.frf⟩,
    rfl, e0.bare, Un.kept hk, ⟨_, x.toInCall.ns, fun i y v h1 h2 h3 => ?_⟩, fun y c h => ⟨_, x.cell y c h⟩, e0.hok.fresh (Nat.le_refl _), fun y c h => ?_, fun p hp => absurd (show p ∈ ([] : List (Addr × Obj)) from hp) (by simp), e0.hok.kept hk, ?_⟩
  · exact name_of_addr x.apart (PySem.mem_of_lookup h1) (PySem.mem_of_lookup h2)
  · have hy : scope.names.lookup y = some .cell ∨ scope.names.lookup y = some .free := hy
    rcases hy with hy | hy
    · exact cell_has hy
    · exact absurd rfl (S.nofree _ (PySem.mem_of_lookup hy))
  · exact Nat.le_of_lt (x.above y c (PySem.mem_of_lookup h))
  · have hi : i < vs.length := by
      unfold start at h2
      by_cases hi : i < vs.length
      · exact hi
      · rw [List.getElem?_append_right (by simpa using hi)] at h2
        rw [List.getElem?_replicate] at h2
        split at h2 <;> cases h2
    have ha : vs[i]? = some v := by
      unfold start at h2
      rw [List.getElem?_append_left (by simpa using hi), List.getElem?_map] at h2
      cases e : vs[i]? with
      | none => rw [e] at h2; cases h2
      | some a => rw [e] at h2; cases h2; rfl
    obtain ⟨u, hu, rv⟩ := r.get ha
    have hp : ps[i]? = some y := by
      rw [← S.pre, List.getElem?_take_of_lt (by omega)]; exact h1
    have ndP : ps.Nodup := by rw [← S.pre]; exact S.nd.sublist (List.take_sublist _ _)
    refine ⟨u, rv, ?_⟩
    rcases S.par y (List.mem_of_getElem? hp) with k | k
    · exact .inl ⟨k, bindL_get ndP hp hu k⟩
    · obtain ⟨c, e⟩ := cell_has (n := s.heap.objs.size + 1) k
      refine .inr ⟨.inl k, c, e, ?_⟩
      have q := x.cell y c e
      rw [bindC_get ndP hp hu (by show scope.names.lookup y ≠ _; rw [k]; decide)] at q
      exact q
  · exact e0.hok.fresh (Nat.le_of_lt (x.above y c (PySem.mem_of_lookup h)))
  · unfold start
    show _ = N.length
    rw [List.length_append, List.length_map, List.length_replicate]
    omega
theorem fn_of {CX : CXT} {P : Program} {w : World} {K : PySem.W.Frag} {mg : Str → Option Value} {base : Heap} {k : Nat} {f : Addr} {name qual : Str} {params : Arguments} {body : List Stmt} {scope : Scope} {dV kV doc pm cdv ct oc : Value} {an od : Option Addr}
    {osl : Array (Option Value)} {N ps : List Str} {sp : Sp} (lk : K.lookup f = some ⟨oc, od, .func (PySem.W.fnOf name qual params body scope dV kV doc pm an cdv ct), osl⟩) (hcd : PySem.W.codeIn K cdv qual = true) (S : FnScope N ps scope)
    (len : ∀ vs H Q E, sp vs H Q E → vs.length = ps.length)
    (hbody : ∀ (A : Around) (outer : List Env) (s : Shared) (H : Hp) (vs : List V) (Q : VK) (E : XK), Room k (A.deeper (envOfC qual scope s.heap.objs.size f cdv)) → sp vs H Q E →
      ∃ t, PSs (cxOf CX P w K mg base N qual scope f cdv A outer s H E) body t ∧ t { nx := fun _ H' => Q .non H', rt := Q } (start N vs) H) :
    FnOk P w K mg base CX (k + 1) f (PySem.W.fnOf name qual params body scope dV kV doc pm an cdv ct) ps sp := by
  refine ⟨len, fun A outer s H args us vs Q E hr e0 hb r hsp => ?_⟩
  have hl := len _ _ _ _ hsp
  have KX : K.In s.heap := e0.mod.kin.keeps fun b o e => (e0.bs b o e).1
  have lim : s.heap.NoLimit := e0.mod.nolimit.keeps fun b o e => (e0.bs b o e).1
  have hkind : ∀ y ∈ ps.zip us, scope.names.lookup y.1 = some .local ∨ (scope.names.lookup y.1 = some .cell ∧ ((cellsFrom (s.heap.objs.size + 1) scope.names []).lookup y.1).isSome = true) := fun ⟨n, v⟩ hy => by
    rcases S.par n (List.of_mem_zip hy).1 with q | q
    · exact .inl q
    · exact .inr ⟨q, PySem.W.cellsFrom_some _ _ _ (.inl q)⟩
  refine codeAny_call_function hr.depth (KX _ _ lk) rfl S.co S.gen rfl (PySem.W.codeRec_of KX hcd) (hb _ _ _ _ ?_)
  refine wpAny_newFunctionEnv_cells S.kind hkind fun env he s1 x => ?_
  subst he
  refine ⟨lim.keeps x.toInCall.keep, codeAny_func ?_⟩
  obtain ⟨t, ht, hq⟩ := hbody A outer s H vs Q E (hr.deeper _) hsp
  have I : Inv (cxOf CX P w K mg base N qual scope f cdv A outer s H E) [] (start N vs) H s1 := inv_start S hr.hd e0 hl r x
  refine wpAny_mono (ht [] s1 (start N vs) H _ I hq) (fun fl s' hs => ?_) fun e s' hs => hs
  have fin : ∀ {σ' : St} {H' : Hp} {v : V} {u : Value}, Inv (cxOf CX P w K mg base N qual scope f cdv A outer s H E) [] σ' H' s' → RelV v u → Q v H' → CE outer P w H s Q u s' :=
    fun {σ' H' v u} J rv q => ⟨v, H', J.os, J.bare, J.base, J.hok, rv, q⟩
  cases fl with
  | ret u =>
    obtain ⟨v, σ', H', J, rv, q⟩ := hs
    exact fin J rv q
  | next =>
    obtain ⟨σ', H', J, q⟩ := hs
    exact fin (v := V.non) (u := Value.none) J rfl q
  | brk =>
    obtain ⟨_, _, _, q⟩ := hs
    exact False.elim q
  | cont =>
    obtain ⟨_, _, _, q⟩ := hs
    exact False.elim q
end L2
namespace L2
open PySem PySem.Spec PyProof.Rows
section
variable {X : Cx} {x : Str} {p pos : Pos} {e : Expr} {es : List Expr} {t : TA} {id T : String} {r : List V → Hp → VK → Prop}
def tCB (r : List V → Hp → VK → Prop) (t : TA) : TE := fun σ H Q => t σ H fun vs H1 => r vs H1 Q
theorem pe_callB (hc : CallR X (.builtin id) r) (hg : Gl X x) (hm : X.mg x = none) (hv : bootBuiltins x = some (.builtin id)) (ha : PA X (e :: es) t) (hn : x ≠ "__name__" := by decide) (hdb : (x == ("__debug__" : Str)) = false := by decide)
    (he : starEach (e :: es) X.env = (false, eval e X.env) :: starEach es X.env := by rfl) (hpl : (backTo pos (starEach es X.env)).any (·.1) = false := by rfl) : PE X (.Call (.Name x p) (e :: es) [] pos) (tCB r t) := by
  intro pins s σ H Q I h
  refine wpAny_Call_Name_kw (ld_blt I hg hm hv ?_ hn hdb)
  exact PyProof.Rows.callWith_builtin1 (thn (ha pos pins s σ H _ I h) fun us s1 ⟨vs, H1, I1, r1, q1⟩ => hc pins s1 σ H1 vs us Q I1 r1 q1) he hpl
theorem pe_callTy (hc : CallR X (.type T) r) (hg : Gl X x) (hm : X.mg x = none) (hv : bootBuiltins x = some (.type T)) (ha : PA X (e :: es) t) (hn : x ≠ "__name__" := by decide) (hdb : (x == ("__debug__" : Str)) = false := by decide)
    (he : starEach (e :: es) X.env = (false, eval e X.env) :: starEach es X.env := by rfl) (hpl : (backTo pos (starEach es X.env)).any (·.1) = false := by rfl) : PE X (.Call (.Name x p) (e :: es) [] pos) (tCB r t) := by
  intro pins s σ H Q I h
  refine wpAny_Call_Name_kw (ld_blt I hg hm hv ?_ hn hdb)
  exact PyProof.Rows.callWith_type1 (thn (ha pos pins s σ H _ I h) fun us s1 ⟨vs, H1, I1, r1, q1⟩ => hc pins s1 σ H1 vs us Q I1 r1 q1) he hpl
theorem pe_callTy0 (hc : CallR X (.type T) r) (hg : Gl X x) (hm : X.mg x = none) (hv : bootBuiltins x = some (.type T)) (hn : x ≠ "__name__" := by decide) (hdb : (x == ("__debug__" : Str)) = false := by decide) :
    PE X (.Call (.Name x p) [] [] pos) (tCB r tNil) := by
  intro pins s σ H Q I h
  refine wpAny_Call_Name_kw (ld_blt I hg hm hv ?_ hn hdb)
  exact PyProof.Rows.callWith_type0 (hc pins s σ H [] [] Q I .nil h)
end
end L2
namespace HT
open PySem PyProof.Rows
def lexLt : List Int → List Int → Bool
  | [], [] => false
  | [], _ :: _ => true
  | _ :: _, [] => false
  | x :: xs, y :: ys => if x = y then lexLt xs ys else decide (x < y)
theorem lexLt_cons (x y : Int) (xs ys : List Int) : lexLt (x :: xs) (y :: ys) = if x = y then lexLt xs ys else decide (x < y) := rfl
theorem lexLt_nil_nil : lexLt [] [] = false := rfl
theorem lexLt_nil_cons (y : Int) (ys : List Int) : lexLt [] (y :: ys) = true := rfl
theorem lexLt_cons_nil (x : Int) (xs : List Int) : lexLt (x :: xs) [] = false := rfl
theorem eqAt_int (A : Around) (s : Shared) (a : Int) (t : Tok) (c : Int) (u : Tok) : ∃ e, SeqAt.EqAt A s (.int a t) (.int c u) e ∧ (e = true ↔ a = c) :=
  ⟨(a == c), SeqAt.EqAt.int_int a t c u, by simp⟩
theorem rcLt_int (A : Around) (s : Shared) (a : Int) (t : Tok) (c : Int) (u : Tok) (prog : Program) (w : World) (E : Value → Shared → Prop) (Q : Value → Shared → Prop) (h : Q (.bool (decide (a < c))) s) :
    wpAny (model prog w) A (richCompare .Lt (.int a t) (.int c u)) Q E s :=
  (PyProof.Rows.lt_int h : wpAny (model prog w) A (compareOp .Lt (.int a t) (.int c u)) Q E s)
section
open PySem.SeqAt
open PySem.AutoSeq1 (wpAny_loadPart')
open PySem.MeetsSeq PySem.MeetsSeq2 PySem.MeetsSeq3
theorem tuple_lt_ints (l b : Addr) (items items2 : Array Value) (n n2 : Nat) (dd dd2 : Option Addr) (sl sl2 : Array (Option Value)) (ns ms : List Int) (hi : IntsAre items.toList ns) (hj : IntsAre items2.toList ms) :
    Meets (Builtin.«tuple.__lt__» ⟨[.ref l, .ref b], []⟩)
      (fun _ R s => s.heap.get? l = some { cls := .type "tuple", dict := dd, data := .seq items n, slots := sl } ∧ s.heap.get? b = some { cls := .type "tuple", dict := dd2, data := .seq items2 n2, slots := sl2 } ∧
        R (.ok (.ret (.bool (lexLt ns ms)))) s) :=
  .of_wp fun prog w A R s h => by
    obtain ⟨hp, g, d, tk, os⟩ := s; obtain ⟨hl, hb, h⟩ := h
    have f2 := AutoSeq1.sub_tuple_tuple
    have z1 : items.size = ns.length := by rw [← hi.length]; simp
    have z2 : items2.size = ms.length := by rw [← hj.length]; simp
    wp_walk using wpAny_loadPart' hl, wpAny_loadPart' hb, wpAny_forIn_list _ (fun rest b s' => b.1 = none ∧ s' = ⟨hp, g, d, tk, os⟩ ∧ ∃ (vs ws : List Value) (ns' ms' : List Int), rest = vs.zip ws ∧
      IntsAre vs ns' ∧ IntsAre ws ms' ∧ ns'.length + items2.size = ms'.length + items.size ∧ R (.ok (.ret (.bool (lexLt ns' ms')))) ⟨hp, g, d, tk, os⟩) _
    case turn =>
      rintro ⟨y, x⟩ rest b s' ⟨hb', rfl, vs, ws, ns', ms', hz, hvi, hwi, hlen, hR⟩
      cases hvi with
      | nil => rw [List.zip_nil_left] at hz; cases hz
      | cons a t hvi' =>
        cases hwi with
        | nil => rw [List.zip_nil_right] at hz; cases hz
        | cons c u hwi' =>
          rw [List.zip_cons_cons] at hz
          injection hz with hyx hrest
          injection hyx with hy hx
          subst hy hx
          rw [lexLt_cons] at hR
          simp only [List.length_cons] at hlen
          obtain ⟨e, he, hiff⟩ := eqAt_int A.in1 ⟨hp, g, d, tk, os⟩ a t c u
          refine wpAny_bind (he prog w _ _ ?_)
          cases e with
          | true =>
            rw [if_pos (hiff.mp rfl)] at hR
            wp_walk
            exact ⟨rfl, rfl, _, _, _, _, hrest, hvi', hwi', by omega, hR⟩
          | false =>
            rw [if_neg (fun q => absurd (hiff.mpr q) Bool.false_ne_true)] at hR
            have hri := rcLt_int A.in1 ⟨hp, g, d, tk, os⟩ a t c u prog w
            wp_walk using hri
            exact ⟨_, rfl, by simpa using hR⟩
    case fin =>
      rintro ⟨b1, b2⟩ s' ⟨hb', rfl, vs, ws, ns', ms', hz, hvi, hwi, hlen, hR⟩
      simp only at hb'
      subst hb'
      have hv : lexLt ns' ms' = decide (items.size < items2.size) := by
        cases hvi with
        | nil =>
          cases hwi with
          | nil =>
            simp only [List.length_nil] at hlen
            rw [lexLt_nil_nil]
            exact (decide_eq_false (by omega)).symm
          | cons c u hw =>
            simp only [List.length_nil, List.length_cons] at hlen
            rw [lexLt_nil_cons]
            exact (decide_eq_true (by omega)).symm
        | cons a t hv =>
          cases hwi with
          | nil =>
            simp only [List.length_nil, List.length_cons] at hlen
            rw [lexLt_cons_nil]
            exact (decide_eq_false (by omega)).symm
          | cons c u hw =>
            rw [List.zip_cons_cons] at hz
            cases hz
      rw [hv] at hR
      wp_walk
      exact ⟨_, rfl, by simpa [Builtin.Tuple.tupleCompareSizes] using hR⟩
    case h =>
      exact ⟨rfl, rfl, items.toList, items2.toList, ns, ms, rfl, hi, hj, by omega, h⟩
end
section
variable {prog : Program} {w : World} {A : Around} {E : Value → Shared → Prop} {s : Shared}
theorem lt_tupInts {l b : Addr} {items items2 : Array Value} {ns ms : List Int} {Q : Value → Shared → Prop} (hl : IsTup s.heap l items) (hb : IsTup s.heap b items2) (hi : IntsAre items.toList ns) (hj : IntsAre items2.toList ms)
    (hu : A.units < cLine) (h : Q (.bool (lexLt ns ms)) s) : wpAny (model prog w) A (compareOp .Lt (.ref l) (.ref b)) Q E s := by
  obtain ⟨⟨cls, dd, data, sl⟩, ho, hc, n, hd⟩ := id hl
  obtain ⟨⟨cls2, dd2, data2, sl2⟩, ho2, hc2, n2, hd2⟩ := id hb
  simp only at hc hd hc2 hd2
  subst hc hd hc2 hd2
  exact richCompare_meets_room (op := .Lt) ⟨_, ho, rfl⟩ ⟨_, ho2, rfl⟩ PySem.F.slot_tuple_lt PySem.F.entry_tuple_lt (PySem.F.args_tuple_lt_2 _ _) (tuple_lt_ints l b items items2 n n2 dd dd2 sl sl2 ns ms hi hj)
    ⟨ho, ho2, show Value.bool (lexLt ns ms) ≠ Value.notImplemented ∧ Q (.bool (lexLt ns ms)) s from ⟨(fun x => nomatch x), h⟩⟩ hu
theorem cat_tup {t b : Addr} {vs ws : List Value} {Q : Value → Shared → Prop} (ht : IsTup s.heap t vs.toArray) (hb : IsTup s.heap b ws.toArray) (hv : vs ≠ [])
    (h1 : ws = [] → Q (.ref t) s) (h2 : ws ≠ [] → Q (.ref s.heap.objs.size) { s with heap := s.heap.push { cls := .type "tuple", data := .seq (vs ++ ws).toArray } })
    (hsz : vs.length + ws.length ≤ sizeLine) : wpAny (model prog w) A (binaryOp .Add (.ref t) (.ref b)) Q E s := by
  obtain ⟨⟨cls, dd, data, sl⟩, ho, hc, n, hd⟩ := id ht
  obtain ⟨⟨cls2, dd2, data2, sl2⟩, ho2, hc2, n2, hd2⟩ := id hb
  simp only at hc hd hc2 hd2
  subst hc hd hc2 hd2
  have e : vs.toArray ++ ws.toArray = (vs ++ ws).toArray := by simp
  by_cases hw : ws = []
  · exact concat_meets ⟨_, ho, rfl⟩ ⟨_, ho2, rfl⟩ noFill_tuple_add seq_tuple_add PySem.F.slot_tuple_add PySem.F.entry_tuple_add (PySem.F.args_tuple_add_2 _ _)
      (tuple_addW1 t b vs.toArray ws.toArray n n2 dd dd2 sl sl2 (by simpa using hv) (by simp [hw])) ⟨ho, ho2, h1 hw⟩
  · refine concat_meets ⟨_, ho, rfl⟩ ⟨_, ho2, rfl⟩ noFill_tuple_add seq_tuple_add PySem.F.slot_tuple_add PySem.F.entry_tuple_add (PySem.F.args_tuple_add_2 _ _)
      (tuple_addW2 t b vs.toArray ws.toArray n n2 dd dd2 sl sl2 (by simpa using hv) (by simpa using hw) (by rw [List.size_toArray, List.size_toArray]; exact hsz)) ⟨ho, ho2, ?_⟩
    rw [e]
    exact h2 hw
def sIx (n d : Nat) : Option Int → Nat
  | none => d
  | some v => if v < 0 then (v + (n : Int)).toNat else min v.toNat n
theorem sIx_none (n d : Nat) : sIx n d none = d := rfl
theorem sIx_nat (n d k : Nat) : sIx n d (some (k : Int)) = min k n := by
  show (if (k : Int) < 0 then ((k : Int) + (n : Int)).toNat else min (k : Int).toNat n) = min k n
  rw [if_neg (by omega), Int.toNat_natCast]
theorem sIx_le (n d : Nat) (hd : d ≤ n) (o : Option Int) : sIx n d o ≤ n := by
  cases o with
  | none => exact hd
  | some v =>
    show (if v < 0 then (v + (n : Int)).toNat else min v.toNat n) ≤ n
    by_cases hv : v < 0
    · rw [if_pos hv]; omega
    · rw [if_neg hv]; exact Nat.min_le_right _ _
theorem clip_eq (v : Int) (n d : Nat) : (if v < 0 then max (v + (n : Int)) 0 else min v (n : Int)) = ((sIx n d (some v) : Nat) : Int) := by
  show (if v < 0 then max (v + (n : Int)) 0 else min v (n : Int)) = (((if v < 0 then (v + (n : Int)).toNat else min v.toNat n) : Nat) : Int)
  by_cases hv : v < 0
  · simp only [if_pos hv]; omega
  · simp only [if_neg hv]; omega
theorem adjust_gen (lo hi : Option Int) (n : Nat) : Builtin.Slice.sliceAdjust lo hi 1 (n : Int) = (((sIx n 0 lo : Nat) : Int), ((sIx n n hi : Nat) : Int)) := by
  have h1 : ¬ ((1 : Int) < 0) := by omega
  unfold Builtin.Slice.sliceAdjust
  simp only [h1, if_false]
  refine Prod.ext ?_ ?_
  · cases lo with
    | none => rfl
    | some v => exact clip_eq v n 0
  · cases hi with
    | none => rfl
    | some v => exact clip_eq v n n
theorem places_gen (i j : Nat) : Builtin.Slice.slicePlaces (i : Int) (j : Int) 1 = j - i := by
  unfold Builtin.Slice.slicePlaces
  have h1 : (1 : Int) > 0 := by omega
  simp only [h1, if_true, Int.ediv_one]
  split <;> omega
theorem slicePart_ {v : Value} {o : Option Int} {Q : Option Int → Shared → Prop} (p : IsPart v o) (h : Q o s) : wpAny (model prog w) A (Builtin.Slice.slicePartIndex v) Q E s := by
  cases p with
  | none => exact slicePart_none h
  | int i t => exact slicePart_int h
theorem sliceApplied_gen {sl : Addr} {vl vu : Value} {lo hi : Option Int} {n : Nat} {Q : Int × Int × Nat → Shared → Prop} (hs : s.heap.IsSliceOf sl vl vu .none) (pl : IsPart vl lo) (pu : IsPart vu hi)
    (h : Q (((sIx n 0 lo : Nat) : Int), 1, sIx n n hi - sIx n 0 lo) s) : wpAny (model prog w) A (Builtin.Slice.sliceApplied (.ref sl) (pure (n : Int))) Q E s := by
  obtain ⟨os, hos, hcs, hds⟩ := id hs
  unfold Builtin.Slice.sliceApplied Builtin.Slice.sliceFields
  refine wpAny_bind (wpAny_bind (wpAny_field hos hds (x := vl) rfl (wpAny_bind (wpAny_field hos hds (x := vu) rfl (wpAny_bind (wpAny_field hos hds (x := .none) rfl (wpAny_pure ?_)))))))
  refine wpAny_bind (slicePart_none ?_)
  show wpAny _ _ (if ((1 : Int) == 0) = true then _ else _) _ _ s
  rw [if_neg (by decide)]
  refine wpAny_bind (slicePart_ pl (wpAny_bind (slicePart_ pu (wpAny_bind (wpAny_pure ?_)))))
  show wpAny _ _ (match Builtin.Slice.sliceAdjust lo hi 1 (n : Int) with | (lo, hi) => pure (lo, (1 : Int), Builtin.Slice.slicePlaces lo hi 1)) _ _ s
  rw [adjust_gen lo hi n]
  show wpAny _ _ (pure (((sIx n 0 lo : Nat) : Int), (1 : Int), Builtin.Slice.slicePlaces ((sIx n 0 lo : Nat) : Int) ((sIx n n hi : Nat) : Int) 1)) _ _ s
  rw [places_gen]
  exact wpAny_pure h
theorem pick_gen (xs : Array Value) (i k : Nat) : ((List.range k).filterMap fun (m : Nat) => xs[((i : Int) + (m : Int) * 1).toNat]?).toArray = ((xs.toList.drop i).take k).toArray := by
  have e : (fun (m : Nat) => xs[((i : Int) + (m : Int) * 1).toNat]?) = fun m => xs[i + m]? := by
    funext m
    have : ((i : Int) + (m : Int) * 1).toNat = i + m := by omega
    rw [this]
  rw [e]
  have := pick_run xs i k
  rw [List.filterMap_map] at this
  have e2 : ((fun x => xs[x]?) ∘ fun x => i + x) = fun m => xs[i + m]? := rfl
  rw [e2] at this
  rw [this]
theorem getItem_tuple_cut {t sl : Addr} {items : Array Value} {vl vu : Value} {lo hi : Option Int} {Q : Value → Shared → Prop} (ht : IsTup s.heap t items) (hs : s.heap.IsSliceOf sl vl vu .none) (pl : IsPart vl lo) (pu : IsPart vu hi)
    (hw : ¬ (sIx items.size 0 lo = 0 ∧ sIx items.size items.size hi = items.size))
    (h : Q (.ref s.heap.objs.size) { s with heap := s.heap.push { cls := .type "tuple", data := .seq ((items.toList.drop (sIx items.size 0 lo)).take (sIx items.size items.size hi - sIx items.size 0 lo)).toArray } })
    (hsz : items.size ≤ sizeLine) : wpAny (model prog w) A (getItem (.ref t) (.ref sl)) Q E s := by
  have htake : sizeOk (.seq ((items.toList.drop (sIx items.size 0 lo)).take (sIx items.size items.size hi - sIx items.size 0 lo)).toArray) := by
    show ((items.toList.drop (sIx items.size 0 lo)).take (sIx items.size items.size hi - sIx items.size 0 lo)).toArray.size ≤ sizeLine
    rw [List.size_toArray, List.length_take, List.length_drop, Array.length_toList]
    omega
  have hj : sIx items.size items.size hi ≤ items.size := sIx_le _ _ (Nat.le_refl _) hi
  obtain ⟨os, hos, hcs, hds⟩ := id hs
  have hTs : s.TypeIs (.ref sl) "slice" := ⟨os, hos, hcs⟩
  unfold getItem
  try with_reducible refine wpAny_holding ?_
  first | refine wpAny_bind (wpAny_pure ?_) | skip
  refine wpAny_bind (wpAny_sequenceKey ht.typeIs (by decide) ?_)
  refine wpAny_bind (wpAny_callSpecial?_slot (name := Str.ofString "__getitem__") ht.typeIs PyProof.Rows.slot_tuple_getitem
    (wpAny_call_entry PyProof.Rows.slot_tuple_getitem ht.typeIs entry_tuple_getitem ?_ (args_tuple_getitem _ _)))
  show wpAny _ _ (Builtin.Tuple.tupleItemsOf (.ref t) >>= _) _ _ s
  refine wpAny_bind (tupleItemsOf_ ht ?_)
  refine wpAny_bind (wpAny_typeOf hTs ?_)
  rw [if_pos (by decide)]
  refine wpAny_bind (sliceApplied_gen hs pl pu ?_)
  have hno : ¬ ((((sIx items.size 0 lo : Nat) : Int) == 0 && (1 : Int) == 1 && (sIx items.size items.size hi - sIx items.size 0 lo) == items.size) = true) := by
    intro q
    rw [Bool.and_eq_true, Bool.and_eq_true] at q
    have q1 : ((sIx items.size 0 lo : Nat) : Int) = 0 := eq_of_beq q.1.1
    have q2 : sIx items.size items.size hi - sIx items.size 0 lo = items.size := eq_of_beq q.2
    exact hw ⟨by omega, by omega⟩
  show wpAny _ _ (if (((sIx items.size 0 lo : Nat) : Int) == 0 && (1 : Int) == 1 && (sIx items.size items.size hi - sIx items.size 0 lo) == items.size) = true then _ else _) _ _ s
  rw [if_neg hno, pick_gen]
  first
    | exact wpAny_bind (m := Builtin.Tuple.tupleExact _) (wpAny_newObj_type (wpAny_pure ⟨_, rfl, wpAny_pure h⟩) htake)
    | exact wpAny_bind (m := Builtin.Tuple.tupleExact _) (wpAny_newObj_type (wpAny_bind (wpAny_pure (wpAny_pure ⟨_, rfl, wpAny_pure h⟩))) htake)
    | exact wpAny_bind (wpAny_bind (m := Builtin.Tuple.tupleExact _) (wpAny_newObj_type (wpAny_pure (wpAny_pure ⟨_, rfl, wpAny_pure h⟩)) htake))
    | exact wpAny_bind (wpAny_bind (m := Builtin.Tuple.tupleExact _) (wpAny_newObj_type (wpAny_pure ⟨_, rfl, wpAny_pure h⟩) htake))
end
end HT
namespace L2
open PySem PySem.Spec PyProof.Rows
abbrev TO := St → Hp → (Option Int → Hp → Prop) → Prop
def PO (X : Cx) (e : Option Expr) (t : TO) : Prop :=
  ∀ (pins : List (Addr × Obj)) (s : Shared) (σ : St) (H : Hp) (Q : Option Int → Hp → Prop), Inv X pins σ H s → t σ H Q →
    wpAny (model X.prog X.w) X.A (evalPart e X.env) (fun u s' => ∃ o H', Inv X pins σ H' s' ∧ IsPart u o ∧ Q o H') X.xe s
def tNoPart : TO := fun _ H Q => Q none H
def tPart (t : TE) : TO := fun σ H Q => t σ H fun x H1 => ∃ i, x = .int i ∧ Q (some i) H1
theorem intsAre_of {ns : List Int} : ∀ {us : List Value}, Vals (ns.map V.int) us → IntsAre us ns := by
  induction ns with
  | nil => intro us r; rw [List.map_nil] at r; cases r; exact .nil
  | cons n ns ih =>
    intro us r
    rw [List.map_cons] at r
    cases r with
    | cons r1 r2 =>
      obtain ⟨t, e⟩ := r1
      subst e
      exact .cons n t (ih r2)
section
variable {X : Cx} {e : Expr} {te : TE} {lo hi : Option Expr} {tl th : TO} {pos p2 : Pos}
theorem po_none : PO X none tNoPart := by
  intro pins s σ H Q I h
  rw [evalPart_none]
  exact wpAny_pure ⟨none, H, I, .none, h⟩
theorem po_some (h : PE X e te) : PO X (some e) (tPart te) := by
  intro pins s σ H Q I hw
  rw [evalPart_some]
  refine thn (h pins s σ H _ I hw) fun u s1 ⟨x, H1, I1, r1, q1⟩ => ?_
  obtain ⟨i, rfl, q⟩ := q1
  obtain ⟨t, rfl⟩ := r1
  exact ⟨some i, H1, I1, .int i t, q⟩
def SlR (X : Cx) (r : V → Option Int → Option Int → Hp → VK → Prop) : Prop :=
  ∀ (pins : List (Addr × Obj)) (s : Shared) (σ : St) (H : Hp) (x : V) (v vl vu : Value) (lo hi : Option Int) (sl : Addr) (Q : VK), Inv X pins σ H s → RelV x v → s.heap.IsSliceOf sl vl vu .none → IsPart vl lo → IsPart vu hi → r x lo hi H Q →
    ∃ T id, typeLookup (.type T) "__getitem__" = pure (some (.builtin id)) ∧ s.TypeIs v T ∧ wpAny (model X.prog X.w) X.A (getItem v (.ref sl)) (EP X pins σ Q) X.xe s
theorem SlR.or {r r' : V → Option Int → Option Int → Hp → VK → Prop} (h : SlR X r) (h' : SlR X r') : SlR X (fun x lo hi H Q => r x lo hi H Q ∨ r' x lo hi H Q) := by
  intro pins s σ H x v vl vu lo hi sl Q I rx hs pl pu q
  rcases q with q | q
  · exact h pins s σ H x v vl vu lo hi sl Q I rx hs pl pu q
  · exact h' pins s σ H x v vl vu lo hi sl Q I rx hs pl pu q
def tSl (r : V → Option Int → Option Int → Hp → VK → Prop) (te : TE) (tl th : TO) : TE := fun σ H Q => te σ H fun x H1 => tl σ H1 fun l H2 => th σ H2 fun u H3 => r x l u H3 Q
theorem pe_slice {r : V → Option Int → Option Int → Hp → VK → Prop} (hr : SlR X r) (he : PE X e te) (hl : PO X lo tl) (hu : PO X hi th) : PE X (.Subscript e (.Slice lo hi none p2) pos) (tSl r te tl th) := by
  intro pins s σ H Q I h
  refine Subscript_ (thn (he pins s σ H _ I h) fun v s1 ⟨x, H1, I1, r1, q1⟩ => ?_)
  refine wpAny_Slice (thn (hl pins s1 σ H1 _ I1 q1) fun vl s2 ⟨l, H2, I2, pl, q2⟩ => thn (hu pins s2 σ H2 _ I2 q2) fun vu s3 ⟨u, H3, I3, pu, q3⟩ => ?_)
  rw [evalPart_none]
  refine wpAny_pure ?_
  have I4 : Inv X pins σ H3 { s3 with heap := s3.heap.push { cls := .type "slice", data := .fields #[vl, vu, .none] } } := I3.kept (t' := s3.toks) fun b ob q => Heap.get?_push_of_some _ q
  obtain ⟨T, id, hT, ht, hg⟩ := hr pins { s3 with heap := s3.heap.push { cls := .type "slice", data := .fields #[vl, vu, .none] } } σ H3 x v vl vu l u s3.heap.objs.size Q I4 r1 (Heap.IsSliceOf.new ..) pl pu q3
  show wpAny (model X.prog X.w) X.A (subscriptTail e (.Slice lo hi none p2) v (.ref s3.heap.objs.size)) (EP X pins σ Q) X.xe { s3 with heap := s3.heap.push { cls := .type "slice", data := .fields #[vl, vu, .none] } }
  exact tail_any (ops := [.ref s3.heap.objs.size, v]) ht hT hg (by with_unfolding_all rfl)
def cutV (xs : List V) (lo hi : Option Int) : List V := (xs.drop (HT.sIx xs.length 0 lo)).take (HT.sIx xs.length xs.length hi - HT.sIx xs.length 0 lo)
theorem cutV_length (xs : List V) (lo hi : Option Int) : (cutV xs lo hi).length ≤ xs.length := by
  unfold cutV
  rw [List.length_take, List.length_drop]
  omega
def rSlT (K : PySem.W.Frag) : V → Option Int → Option Int → Hp → VK → Prop := fun x lo hi H Q => ∃ a xs, x = .ref a ∧ SqT K H a xs ∧
  ¬ (HT.sIx xs.length 0 lo = 0 ∧ HT.sIx xs.length xs.length hi = xs.length) ∧ ∀ p, H p = none → Q (.ref p) (upd H p (.tup (cutV xs lo hi)))
theorem sl_tup : SlR X (rSlT X.K) := by
  intro pins s σ H x v vl vu lo hi sl Q I rx hs pl pu h
  obtain ⟨a, xs, rfl, hx, hw, q⟩ := h
  cases rx
  obtain ⟨its, r, ht, hz⟩ := I.tuple hx
  have hlen : its.toArray.size = xs.length := by rw [List.size_toArray]; exact r.length.symm
  refine ⟨"tuple", _, PyProof.Rows.slot_tuple_getitem.lookup, ht.typeIs, ?_⟩
  refine HT.getItem_tuple_cut ht hs pl pu (by rw [hlen]; exact hw) ?_ (by rw [hlen]; exact hz)
  rw [hlen]
  refine ⟨.ref s.heap.objs.size, _, I.laid (t' := s.toks) (o := .tup (cutV xs lo hi)) (fun b ob q => Heap.get?_push_of_some _ q) (Nat.le_refl _) ?_, rfl, q _ (I.hok.fresh (Nat.le_refl _))⟩
  exact ⟨Nat.le_trans (cutV_length xs lo hi) hz, _, (r.drop (HT.sIx xs.length 0 lo)).take (HT.sIx xs.length xs.length hi - HT.sIx xs.length 0 lo), IsTup.new _ _⟩
def rLtT (K : PySem.W.Frag) : R2 := fun x y H Q => ∃ a b ns ms, x = .ref a ∧ y = .ref b ∧ SqT K H a (ns.map V.int) ∧ SqT K H b (ms.map V.int) ∧ Q (.bl (HT.lexLt ns ms)) H
theorem op_ltT (hu : X.A.units < cLine) : OpR X (compareOp .Lt) (rLtT X.K) := by
  intro pins s σ H x y v u Q I rx ry h
  obtain ⟨a, b, ns, ms, rfl, rfl, ha, hb, q⟩ := h
  cases rx
  cases ry
  obtain ⟨its, r1, p1, _⟩ := I.tuple ha
  obtain ⟨its2, r2, p2, _⟩ := I.tuple hb
  have i1 : IntsAre its.toArray.toList ns := intsAre_of r1
  have i2 : IntsAre its2.toArray.toList ms := intsAre_of r2
  exact HT.lt_tupInts p1 p2 i1 i2 hu ⟨.bl (HT.lexLt ns ms), H, I, rfl, q⟩
def rCatT (K : PySem.W.Frag) : R2 := fun x y H Q => ∃ a b xs ys, x = .ref a ∧ y = .ref b ∧ SqT K H a xs ∧ SqT K H b ys ∧ xs ≠ [] ∧ xs.length + ys.length ≤ sizeLine ∧
  (ys = [] → Q (.ref a) H) ∧ (ys ≠ [] → ∀ p, H p = none → Q (.ref p) (upd H p (.tup (xs ++ ys))))
theorem Vals.nil_iff {xs : List V} {us : List Value} (r : Vals xs us) : us = [] ↔ xs = [] := by
  cases r with
  | nil => simp
  | cons _ _ => simp
theorem op_catT : OpR X (binaryOp .Add) (rCatT X.K) := by
  intro pins s σ H x y v u Q I rx ry h
  obtain ⟨a, b, xs, ys, rfl, rfl, ha, hb, hx, hz, q1, q2⟩ := h
  cases rx
  cases ry
  obtain ⟨its, r1, p1, _⟩ := I.tuple ha
  obtain ⟨its2, r2, p2, _⟩ := I.tuple hb
  refine HT.cat_tup p1 p2 (fun z => hx (r1.nil_iff.mp z)) (fun z => ⟨.ref a, H, I, rfl, q1 (r2.nil_iff.mp z)⟩) (fun z => ?_) (by rw [← r1.length, ← r2.length]; exact hz)
  refine ⟨.ref s.heap.objs.size, _, I.laid (t' := s.toks) (o := .tup (xs ++ ys)) (fun b ob q => Heap.get?_push_of_some _ q) (Nat.le_refl _) ?_, rfl, q2 (fun w => z (r2.nil_iff.mpr w)) _ (I.hok.fresh (Nat.le_refl _))⟩
  exact ⟨by rw [List.length_append]; exact hz, _, r1.append r2, IsTup.new _ _⟩
theorem call_tupleT : CallR X (.type "tuple") (fun xs H Q => ∃ a ys, xs = [.ref a] ∧ SqT X.K H a ys ∧ Q (.ref a) H) := by
  intro pins s σ H xs us Q I r h
  obtain ⟨a, ys, rfl, ha, q⟩ := h
  obtain ⟨u, rfl, ru⟩ := vals1 r
  cases ru
  obtain ⟨its, _, p1, _⟩ := I.tuple ha
  exact call_tuple_same (items := its.toArray) p1 ⟨.ref a, H, I, rfl, q⟩
end
end L2
namespace L2
open PySem PySem.Spec PyProof.Rows
def ixN (n : Nat) (i : Int) : Option Nat := if 0 ≤ i then (if i < n then some i.toNat else none) else if -(n : Int) ≤ i then some (i + n).toNat else none
def atI {α : Type} (xs : List α) (i : Int) : Option α := (ixN xs.length i).bind fun j => xs[j]?
theorem ixN_seq {n : Nat} {i : Int} {j : Nat} (h : ixN n i = some j) : seqIndex? i n = some j ∧ j < n ∧ -(n : Int) ≤ i ∧ i < n := by
  unfold ixN at h
  by_cases h0 : 0 ≤ i
  · rw [if_pos h0] at h
    by_cases h1 : i < n
    · rw [if_pos h1] at h
      have e : i.toNat = j := Option.some.inj h
      exact ⟨by rw [seqIndex_of h0 h1, e], by omega, by omega, h1⟩
    · rw [if_neg h1] at h; cases h
  · rw [if_neg h0] at h
    by_cases h1 : -(n : Int) ≤ i
    · rw [if_pos h1] at h
      have e : (i + n).toNat = j := Option.some.inj h
      exact ⟨by rw [seqIndex_neg (by omega) h1, e], by omega, h1, by omega⟩
    · rw [if_neg h1] at h; cases h
theorem atI_get {α : Type} {xs : List α} {i : Int} {v : α} (h : atI xs i = some v) : ∃ j, seqIndex? i xs.length = some j ∧ xs[j]? = some v ∧ j < xs.length ∧ -(xs.length : Int) ≤ i ∧ i < xs.length := by
  unfold atI at h
  cases e : ixN xs.length i with
  | none => rw [e] at h; cases h
  | some j =>
    rw [e] at h
    obtain ⟨h1, h2, h3, h4⟩ := ixN_seq e
    exact ⟨j, h1, h, h2, h3, h4⟩
theorem atI_nat {α : Type} {xs : List α} {j : Nat} {v : α} (h : xs[j]? = some v) : atI xs (j : Int) = some v := by
  have hj : j < xs.length := (List.getElem?_eq_some_iff.mp h).1
  have e : ixN xs.length (j : Int) = some j := by
    unfold ixN
    rw [if_pos (by omega), if_pos (by omega)]; simp
  unfold atI; rw [e]; exact h
theorem atI_last {α : Type} (xs : List α) (v : α) : atI (xs ++ [v]) (-1) = some v := by
  have hl : (xs ++ [v]).length = xs.length + 1 := by simp
  have e : ixN (xs ++ [v]).length (-1) = some xs.length := by
    unfold ixN
    rw [hl, if_neg (by decide), if_pos (by omega)]
    congr 1
    omega
  unfold atI
  rw [e]
  show (xs ++ [v])[xs.length]? = some v
  simp
def PlainIx (b : Expr) : Prop := ∀ o i, subscripted b false o i = operate [o, i] (getItem o i)
def IxR (X : Cx) (r : R2) : Prop :=
  ∀ (value slice : Expr) (pins : List (Addr × Obj)) (s : Shared) (σ : St) (H : Hp) (x y : V) (v u : Value) (Q : VK), Inv X pins σ H s → RelV x v → RelV y u → r x y H Q →
    subscripted slice false v u = operate [v, u] (getItem v u) → wpAny (model X.prog X.w) X.A (subscriptTail value slice v u) (EP X pins σ Q) X.xe s
def MtR (X : Cx) (id : String) (r : V → List V → Hp → VK → Prop) : Prop :=
  ∀ (pins : List (Addr × Obj)) (s : Shared) (σ : St) (H : Hp) (x : V) (xs : List V) (v : Value) (us : List Value) (Q : VK), Inv X pins σ H s → RelV x v → Vals xs us → r x xs H Q →
    wpAny (model X.prog X.w) X.A (call (.builtin id) (v :: us)) (EP X pins σ Q) X.xe s
section
variable {X : Cx} {a b : Expr} {ta tb : TE} {pos : Pos}
theorem IxR.or {r r' : R2} (h : IxR X r) (h' : IxR X r') : IxR X (fun x y H Q => r x y H Q ∨ r' x y H Q) := by
  intro value slice pins s σ H x y v u Q I rx ry q hs
  rcases q with q | q
  · exact h value slice pins s σ H x y v u Q I rx ry q hs
  · exact h' value slice pins s σ H x y v u Q I rx ry q hs
theorem MtR.or {id : String} {r r' : V → List V → Hp → VK → Prop} (h : MtR X id r) (h' : MtR X id r') : MtR X id (fun x xs H Q => r x xs H Q ∨ r' x xs H Q) := by
  intro pins s σ H x xs v us Q I rx rs q
  rcases q with q | q
  · exact h pins s σ H x xs v us Q I rx rs q
  · exact h' pins s σ H x xs v us Q I rx rs q
theorem pe_ix {r : R2} (hr : IxR X r) (ha : PE X a ta) (hb : PE X b tb) (hs : PlainIx b) : PE X (.Subscript a b pos) (tOp r ta tb) := by
  intro pins s σ H Q I h
  exact Subscript_ (binT ha hb I h fun v u s2 x y H2 I2 rx ry q => hr a b pins s2 σ H2 x y v u Q I2 rx ry q (hs _ _))
def rIxL (K : PySem.W.Frag) : R2 := fun x y H Q => ∃ p xs i v, x = .ref p ∧ y = .int i ∧ SqL K H p xs ∧ atI xs i = some v ∧ Q v H
def rIxT (K : PySem.W.Frag) : R2 := fun x y H Q => ∃ p xs i v, x = .ref p ∧ y = .int i ∧ SqT K H p xs ∧ atI xs i = some v ∧ Q v H
def rIxS : R2 := fun x y H Q => ∃ z i c, x = .str z ∧ y = .int i ∧ z.length ≤ sizeLine ∧ atI z.cps.toList i = some c ∧ Q (.str ⟨#[c]⟩) H
theorem ix_list : IxR X (rIxL X.K) := by
  intro value slice pins s σ H x y v u Q I rx ry h hs
  obtain ⟨p, xs, i, z, rfl, rfl, hq, he, q⟩ := h
  cases rx
  obtain ⟨t, rfl⟩ := ry
  obtain ⟨its, r, pl, hz⟩ := I.list hq
  obtain ⟨j, h1, h2, h3, h4, h5⟩ := atI_get he
  obtain ⟨w, ew, rw'⟩ := r.get h2
  have hl := r.length
  have hn := line63
  have fin : EP X pins σ Q w s := ⟨z, H, I, rw', q⟩
  by_cases h0 : 0 ≤ i
  · have hj : i.toNat = j := by
      rw [seqIndex_of h0 h5] at h1
      exact Option.some.inj h1
    exact item_listR pl.isList h0 (by omega) (by rw [hj]; simpa using ew) fin hs
  · have hj : (i + (its.toArray.size : Int)).toNat = j := by
      rw [seqIndex_neg (by omega) h4] at h1
      rw [List.size_toArray, ← hl]
      exact Option.some.inj h1
    exact subscriptTail_builtinR (x := w) pl.isList.typeIs slot_list_getitem.lookup
      (wpAny_getItem_list_neg (Q := fun r s' => r = w ∧ EP X pins σ Q r s') pl.isList (by omega) (by rw [List.size_toArray] <;> omega) (by omega) (by rw [hj]; simpa using ew) ⟨rfl, fin⟩) hs
theorem ix_tup : IxR X (rIxT X.K) := by
  intro value slice pins s σ H x y v u Q I rx ry h hs
  obtain ⟨p, xs, i, z, rfl, rfl, hq, he, q⟩ := h
  cases rx
  obtain ⟨t, rfl⟩ := ry
  obtain ⟨its, r, pl, hz⟩ := I.tuple hq
  obtain ⟨j, h1, h2, h3, h4, h5⟩ := atI_get he
  obtain ⟨w, ew, rw'⟩ := r.get h2
  have hl := r.length
  have hn := line63
  have fin : EP X pins σ Q w s := ⟨z, H, I, rw', q⟩
  exact subscriptTail_builtinR (x := w) pl.typeIs slot_tuple_getitem.lookup
    (getItem_tuple (j := j) (Q := fun r s' => r = w ∧ EP X pins σ Q r s') pl (by omega) (by omega) (by rw [List.size_toArray, ← hl]; exact h1) (by simpa using ew) ⟨rfl, fin⟩) hs
theorem ix_str : IxR X rIxS := by
  intro value slice pins s σ H x y v u Q I rx ry h hs
  obtain ⟨z, i, c, rfl, rfl, hz, he, q⟩ := h
  obtain ⟨t, rfl⟩ := rx
  obtain ⟨t', rfl⟩ := ry
  obtain ⟨j, h1, h2, h3, h4, h5⟩ := atI_get he
  have hl : z.cps.toList.length = z.length := by simp [Str.length]
  rw [hl] at h1 h4 h5
  have hn := line63
  exact tail_any (typeIs_str s z t) slot_str_getitem.lookup (getItem_str (c := c) (by
    have e1 : decide (i < -(2 ^ 63 : Int)) = false := decide_eq_false (by omega)
    have e2 : decide (i ≥ 2 ^ 63) = false := decide_eq_false (by omega)
    rw [e1, e2, Bool.or_false]) (by rw [h1]; simpa using h2) ⟨.str ⟨#[c]⟩, H, I.tok _, ⟨_, rfl⟩, q⟩) hs
def rIx (K : PySem.W.Frag) : R2 := fun x y H Q => rIxL K x y H Q ∨ rIxT K x y H Q ∨ rIxS x y H Q
theorem ix_seq : IxR X (rIx X.K) := ix_list.or (ix_tup.or ix_str)
theorem mapSeq_set (its : List Value) (n j : Nat) (u : Value) : Obj.mapSeq (·.setIfInBounds j u) { cls := .type "list", data := .seq its.toArray n } = { cls := .type "list", data := .seq (its.set j u).toArray n } := by
  simp [Obj.mapSeq]
theorem Inv.lst {pins : List (Addr × Obj)} {σ : St} {H : Hp} {s : Shared} {p : Addr} {xs : List V} (I : Inv X pins σ H s) (h : H p = some (.lst xs)) :
    ∃ (its : List Value) (n : Nat), Vals xs its ∧ s.heap.get? p = some { cls := .type "list", data := .seq its.toArray n } ∧ xs.length ≤ sizeLine := by
  obtain ⟨z, its, n, r, e⟩ := I.hok p _ h
  exact ⟨its, n, r, e, z⟩
theorem Inv.lstUpd {pins : List (Addr × Obj)} {σ : St} {H : Hp} {s : Shared} {p : Addr} {xs ys : List V} {its its' : List Value} {n n' : Nat} {f : Obj → Obj} (I : Inv X pins σ H s) (h : H p = some (.lst xs))
    (ho : s.heap.get? p = some { cls := .type "list", data := .seq its.toArray n }) (hf : f { cls := .type "list", data := .seq its.toArray n } = { cls := .type "list", data := .seq its'.toArray n' }) (r : Vals ys its') (hz : ys.length ≤ sizeLine) (t : Nat) :
    Inv X pins σ (upd H p (.lst ys)) { s with heap := s.heap.update p f, toks := t } := by
  have e : (s.heap.update p f).get? p = some { cls := .type "list", data := .seq its'.toArray n' } := by
    rw [Heap.get?_update_self f ho (by rw [hf] <;> rfl), hf]
  refine I.write (x := p) (e := p) (by rw [h]; trivial) (.inl rfl) (fun b u hb q => (Heap.get?_update_other _ _ (Ne.symm hb)).trans q) ⟨_, e⟩ ?_
  exact ⟨hz, its', n', r, e⟩
def rSetL : V → V → V → Hp → (Hp → Prop) → Prop := fun o i v H Q => ∃ p xs k j, o = .ref p ∧ i = .int k ∧ H p = some (.lst xs) ∧ ixN xs.length k = some j ∧ Q (upd H p (.lst (xs.set j v)))
theorem set_list : PSet X rSetL := by
  intro pins s σ H o i v ov iv u Q I ro ri rv h
  obtain ⟨p, xs, k, j, rfl, rfl, hp, hj, q⟩ := h
  cases ro
  obtain ⟨t, rfl⟩ := ri
  obtain ⟨its, n, r, ho, hz⟩ := I.lst hp
  obtain ⟨h1, h2, h3, h4⟩ := ixN_seq hj
  have hl := r.length
  have hn := line63
  have I' : Inv X pins σ (upd H p (.lst (xs.set j v))) { s with heap := s.heap.update p (Obj.mapSeq (·.setIfInBounds j u)) } :=
    I.lstUpd hp ho (mapSeq_set its n j u) (r.set rv j) (by rw [List.length_set]; exact hz) s.toks
  by_cases h0 : 0 ≤ k
  · have hk : k.toNat = j := by
      rw [seqIndex_of h0 h4] at h1
      exact Option.some.inj h1
    exact PySem.W.ki_setAt ho h0 (by omega) (by rw [List.size_toArray, ← hl]; exact h4) (by rw [hk]; exact ⟨_, I', q⟩)
  · have hk : (k + (its.toArray.size : Int)).toNat = j := by
      rw [seqIndex_neg (by omega) h3] at h1
      rw [List.size_toArray, ← hl]
      exact Option.some.inj h1
    exact PySem.W.ki_setBack ho (by omega) (by rw [List.size_toArray, ← hl]; exact h3) (by omega) (by rw [hk]; exact ⟨_, I', q⟩)
theorem slice_bounds (lo hi : Option Int) (n : Nat) : (sliceBounds lo hi none n).1 = ((HT.sIx n 0 lo : Nat) : Int) ∧ (sliceBounds lo hi none n).2.1 = ((HT.sIx n n hi : Nat) : Int) ∧ (sliceBounds lo hi none n).2.2 = 1 := by
  refine ⟨?_, ?_, rfl⟩
  · cases lo with
    | none => simp [sliceBounds, HT.sIx]
    | some i =>
      simp only [sliceBounds, HT.sIx, Option.getD_none, show (1 : Int) > 0 by decide, if_true]
      by_cases h : i < 0
      · simp only [h, if_true] <;> omega
      · simp only [h, if_false] <;> omega
  · cases hi with
    | none => simp [sliceBounds, HT.sIx]
    | some i =>
      simp only [sliceBounds, HT.sIx, Option.getD_none, show (1 : Int) > 0 by decide, if_true]
      by_cases h : i < 0
      · simp only [h, if_true] <;> omega
      · simp only [h, if_false] <;> omega
theorem slicePick_cut (its : List Value) (lo hi : Option Int) : slicePick its.toArray lo hi none = ((its.drop (HT.sIx its.length 0 lo)).take (HT.sIx its.length its.length hi - HT.sIx its.length 0 lo)).toArray := by
  obtain ⟨h1, h2, h3⟩ := slice_bounds lo hi its.toArray.size
  unfold slicePick
  rw [h1, h2, h3]
  simp only [sliceRange_one, pick_run, List.size_toArray] <;> rfl
def rSlL (K : PySem.W.Frag) : V → Option Int → Option Int → Hp → VK → Prop := fun x lo hi H Q => ∃ a xs, x = .ref a ∧ SqL K H a xs ∧ ∀ p, H p = none → Q (.ref p) (upd H p (.lst (cutV xs lo hi)))
theorem sl_list : SlR X (rSlL X.K) := by
  intro pins s σ H x v vl vu lo hi sl Q I rx hs pl pu h
  obtain ⟨a, xs, rfl, hx, q⟩ := h
  cases rx
  obtain ⟨its, r, ht, hz⟩ := I.list hx
  have hlen := r.length
  refine ⟨"list", _, slot_list_getitem.lookup, ht.isList.typeIs, ?_⟩
  refine wpAny_getItem_list_slice ht.isList hs pl pu .none (by simp) ?_ (by rw [List.size_toArray] <;> omega)
  rw [slicePick_cut, ← hlen]
  refine ⟨.ref s.heap.objs.size, _, I.laid (t' := s.toks) (o := .lst (cutV xs lo hi)) (fun b ob q => Heap.get?_push_of_some _ q) (Nat.le_refl _) ?_, rfl, q _ (I.hok.fresh (Nat.le_refl _))⟩
  exact ⟨Nat.le_trans (cutV_length xs lo hi) hz, _, 0, (r.drop (HT.sIx xs.length 0 lo)).take (HT.sIx xs.length xs.length hi - HT.sIx xs.length 0 lo), Heap.get?_push_size _ rfl⟩
def flatV : V → Bool
  | .non => true
  | .bl _ => true
  | .int _ => true
  | .str _ => true
  | _ => false
def eqV : V → V → Bool
  | .non, .non => true
  | .bl a, .bl b => a == b
  | .bl a, .int b => (if a then 1 else 0) == b
  | .int a, .bl b => a == (if b then 1 else 0)
  | .int a, .int b => a == b
  | .str a, .str b => a == b
  | _, _ => false
theorem eqAt_V {A : Around} {s : Shared} {y x : V} {u v : Value} (ry : RelV y u) (rx : RelV x v) (fy : flatV y = true) (fx : flatV x = true) : SeqAt.EqAt A s u v (eqV y x) := by
  cases y with
  | non =>
    cases ry
    cases x with
    | non => cases rx; exact SeqAt.EqAt.same _
    | bl b => cases rx; exact SeqAt.EqAt.none_bool b
    | int b => obtain ⟨t, rfl⟩ := rx; exact SeqAt.EqAt.none_int b t
    | str b => obtain ⟨t, rfl⟩ := rx; exact SeqAt.EqAt.none_str b t
    | _ => exact absurd (show false = true from fx) Bool.false_ne_true
  | bl a =>
    cases ry
    cases x with
    | non => cases rx; exact SeqAt.EqAt.bool_none a
    | bl b => cases rx; exact SeqAt.EqAt.bool_bool a b
    | int b => obtain ⟨t, rfl⟩ := rx; exact SeqAt.EqAt.bool_int a b t
    | str b => obtain ⟨t, rfl⟩ := rx; exact SeqAt.EqAt.bool_str a b t
    | _ => exact absurd (show false = true from fx) Bool.false_ne_true
  | int a =>
    obtain ⟨t', rfl⟩ := ry
    cases x with
    | non => cases rx; exact SeqAt.EqAt.int_none a t'
    | bl b => cases rx; exact SeqAt.EqAt.int_bool a t' b
    | int b => obtain ⟨t, rfl⟩ := rx; exact SeqAt.EqAt.int_int a t' b t
    | str b => obtain ⟨t, rfl⟩ := rx; exact SeqAt.EqAt.int_str a t' b t
    | _ => exact absurd (show false = true from fx) Bool.false_ne_true
  | str a =>
    obtain ⟨t', rfl⟩ := ry
    cases x with
    | non => cases rx; exact SeqAt.EqAt.str_none a t'
    | bl b => cases rx; exact SeqAt.EqAt.str_bool a t' b
    | int b => obtain ⟨t, rfl⟩ := rx; exact SeqAt.EqAt.str_int a t' b t
    | str b => obtain ⟨t, rfl⟩ := rx; exact SeqAt.EqAt.str_str a t' b t
    | _ => exact absurd (show false = true from fx) Bool.false_ne_true
  | _ => exact absurd (show false = true from fy) Bool.false_ne_true
def eqU (x : V) (u : Value) : Bool := match u with
  | .none => eqV .non x
  | .bool b => eqV (.bl b) x
  | .int i _ => eqV (.int i) x
  | .str z _ => eqV (.str z) x
  | _ => false
theorem eqU_of {x y : V} {u : Value} (r : RelV y u) (f : flatV y = true) : eqU x u = eqV y x := by
  cases y with
  | non => cases r; rfl
  | bl b => cases r; rfl
  | int i => obtain ⟨t, rfl⟩ := r; rfl
  | str z => obtain ⟨t, rfl⟩ := r; rfl
  | _ => exact absurd (show false = true from f) Bool.false_ne_true
theorem any_eqU {x : V} : ∀ {xs : List V} {us : List Value}, Vals xs us → xs.all flatV = true → us.any (eqU x) = xs.any fun y => eqV y x
  | _, _, .nil, _ => rfl
  | y :: xs, u :: us, .cons r t, f => by
    rw [List.all_cons, Bool.and_eq_true] at f
    rw [List.any_cons, List.any_cons, eqU_of r f.1, any_eqU t f.2]
theorem mem_eqAt {A : Around} {s : Shared} {x : V} {v : Value} (rx : RelV x v) (fx : flatV x = true) : ∀ {xs : List V} {us : List Value}, Vals xs us → xs.all flatV = true → ∀ u ∈ us, SeqAt.EqAt A s u v (eqU x u)
  | _, _, .nil, _ => fun u hu => by cases hu
  | y :: xs, u :: us, .cons r t, f => fun u' hu => by
    rw [List.all_cons, Bool.and_eq_true] at f
    rcases List.mem_cons.mp hu with rfl | hu
    · rw [eqU_of r f.1]; exact eqAt_V r rx f.1 fx
    · exact mem_eqAt rx fx t f.2 u' hu
def inV (x : V) (xs : List V) : Bool := xs.any fun y => eqV y x
def rIn (K : PySem.W.Frag) (neg : Bool) : R2 := fun x y H Q => ∃ p xs, y = .ref p ∧ (SqL K H p xs ∨ SqT K H p xs) ∧ flatV x = true ∧ xs.all flatV = true ∧ Q (.bl (if neg then !inV x xs else inV x xs)) H
theorem op_in_seq : OpR X (compareOp .In) (rIn X.K false) := by
  intro pins s σ H x y v u Q I rx ry h
  obtain ⟨p, xs, rfl, hq, fx, fs, q⟩ := h
  cases ry
  rcases hq with hq | hq
  · obtain ⟨its, r, pl, hz⟩ := I.list hq
    refine SeqAt.in_listAt (eqU x) pl.isList (fun w hw => mem_eqAt rx fx r fs w (by simpa using hw)) ⟨.bl _, H, I, rfl, ?_⟩
    rw [show its.toArray.any (eqU x) = its.any (eqU x) by simp, any_eqU r fs]
    exact q
  · obtain ⟨its, r, pl, hz⟩ := I.tuple hq
    refine SeqAt.in_tupleAt (eqU x) pl (fun w hw => mem_eqAt rx fx r fs w (by simpa using hw)) ⟨.bl _, H, I, rfl, ?_⟩
    rw [show its.toArray.any (eqU x) = its.any (eqU x) by simp, any_eqU r fs]
    exact q
theorem op_notIn_seq : OpR X (compareOp .NotIn) (rIn X.K true) := by
  intro pins s σ H x y v u Q I rx ry h
  obtain ⟨p, xs, rfl, hq, fx, fs, q⟩ := h
  cases ry
  rcases hq with hq | hq
  · obtain ⟨its, r, pl, hz⟩ := I.list hq
    refine SeqAt.notIn_listAt (eqU x) pl.isList (fun w hw => mem_eqAt rx fx r fs w (by simpa using hw)) ⟨.bl _, H, I, rfl, ?_⟩
    rw [show its.toArray.any (eqU x) = its.any (eqU x) by simp, any_eqU r fs]
    exact q
  · obtain ⟨its, r, pl, hz⟩ := I.tuple hq
    refine SeqAt.notIn_tupleAt (eqU x) pl (fun w hw => mem_eqAt rx fx r fs w (by simpa using hw)) ⟨.bl _, H, I, rfl, ?_⟩
    rw [show its.toArray.any (eqU x) = its.any (eqU x) by simp, any_eqU r fs]
    exact q
theorem op_notIn_str : OpR X (compareOp .NotIn) (fun x y H Q => ∃ i j, x = .str i ∧ y = .str j ∧ Q (.bl (!(!(Builtin.Str.occurrences j i 0 j.length 1).isEmpty))) H) := by
  intro pins s σ H x y v u Q I rx ry h
  obtain ⟨i, j, rfl, rfl, q⟩ := h
  obtain ⟨t, rfl⟩ := rx
  obtain ⟨t', rfl⟩ := ry
  exact notIn_str ⟨.bl _, H, I, rfl, q⟩
theorem call_len_seq : CallR X (.builtin "len") (fun xs H Q => ∃ p ys, xs = [.ref p] ∧ (SqL X.K H p ys ∨ SqT X.K H p ys) ∧ Q (.int ys.length) H) := by
  intro pins s σ H xs us Q I r h
  obtain ⟨p, ys, rfl, hq, q⟩ := h
  obtain ⟨u, rfl, rx⟩ := vals1 r
  cases rx
  have hn := line63
  rcases hq with hq | hq
  · obtain ⟨its, r', pl, hz⟩ := I.list hq
    have hlen := r'.length
    exact Calls.call_len_list pl.isList (by simp only [List.size_toArray] <;> omega) ⟨.int ys.length, H, I.tok _, ⟨s.toks + 1, by rw [List.size_toArray, hlen]⟩, q⟩
  · obtain ⟨its, r', pl, hz⟩ := I.tuple hq
    have hlen := r'.length
    exact len_tuple pl (by simp only [List.size_toArray] <;> omega) ⟨.int ys.length, H, I.tok _, ⟨s.toks + 1, by rw [List.size_toArray, hlen]⟩, q⟩
theorem call_len_str : CallR X (.builtin "len") (fun xs H Q => ∃ z, xs = [.str z] ∧ z.length ≤ sizeLine ∧ Q (.int z.length) H) := by
  intro pins s σ H xs us Q I r h
  obtain ⟨z, rfl, hz, q⟩ := h
  obtain ⟨u, rfl, t, rfl⟩ := vals1 r
  have hn := line63
  exact len_str (by omega) ⟨.int z.length, H, I.tok _, ⟨_, rfl⟩, q⟩
theorem CallR.or {f : Value} {r r' : List V → Hp → VK → Prop} (h : CallR X f r) (h' : CallR X f r') : CallR X f (fun xs H Q => r xs H Q ∨ r' xs H Q) := by
  intro pins s σ H xs us Q I rs q
  rcases q with q | q
  · exact h pins s σ H xs us Q I rs q
  · exact h' pins s σ H xs us Q I rs q
theorem call_list_of : CallR X (.type "list") (fun xs H Q => ∃ p ys, xs = [.ref p] ∧ (SqL X.K H p ys ∨ SqT X.K H p ys) ∧ ∀ l, H l = none → Q (.ref l) (upd H l (.lst ys))) := by
  intro pins s σ H xs us Q I r h
  obtain ⟨p, ys, rfl, hq, q⟩ := h
  obtain ⟨u, rfl, rx⟩ := vals1 r
  cases rx
  have fin : ∀ (its : List Value), Vals ys its → ys.length ≤ sizeLine → ∀ (h' : Heap) (c' : Nat), (∀ b o', s.heap.get? b = some o' → h'.get? b = some o') →
      h'.get? s.heap.objs.size = some { cls := .type "list", dict := none, data := .seq its.toArray c', slots := #[] } → EP X pins σ Q (.ref s.heap.objs.size) { s with heap := h' } := fun its r' hz h' c' kp e =>
    ⟨.ref s.heap.objs.size, _, I.laid (t' := s.toks) kp (Nat.le_refl _) (show ObjOk X.prog X.w _ h' _ (.lst ys) from ⟨hz, its, c', r', e⟩), rfl, q _ (I.hok.fresh (Nat.le_refl _))⟩
  rcases hq with hq | hq
  · obtain ⟨its, r', pl, hz⟩ := I.list hq
    have hlen := r'.length
    obtain ⟨o, ho, hc, n, hd⟩ := pl.isList
    exact call_list_seq p (.inl rfl) ho hc hd (fun h' c' kp e => fin its r' hz h' c' kp e) (by simp only [List.size_toArray] <;> omega)
  · obtain ⟨its, r', pl, hz⟩ := I.tuple hq
    have hlen := r'.length
    obtain ⟨o, ho, hc, n, hd⟩ := pl
    exact call_list_seq p (.inr rfl) ho hc hd (fun h' c' kp e => fin its r' hz h' c' kp e) (by simp only [List.size_toArray] <;> omega)
theorem call_tuple_of : CallR X (.type "tuple") (fun xs H Q => ∃ p ys, xs = [.ref p] ∧ ((SqL X.K H p ys ∧ ∀ l, H l = none → Q (.ref l) (upd H l (.tup ys))) ∨ (SqT X.K H p ys ∧ Q (.ref p) H))) := by
  intro pins s σ H xs us Q I r h
  obtain ⟨p, ys, rfl, h⟩ := h
  obtain ⟨u, rfl, rx⟩ := vals1 r
  cases rx
  rcases h with ⟨hq, q⟩ | ⟨hq, q⟩
  · obtain ⟨its, r', pl, hz⟩ := I.list hq
    have hlen := r'.length
    refine call_tuple_list pl.isList (fun h' kp => ?_) (by simp only [List.size_toArray] <;> omega)
    have I1 : Inv X pins σ H { s with heap := h' } := I.kept (t' := s.toks) kp
    have I2 : Inv X pins σ (upd H h'.objs.size (.tup ys)) { s with heap := h'.push { cls := .type "tuple", data := .seq its.toArray } } :=
      I1.laid (t' := s.toks) (fun b o e => Heap.get?_push_of_some _ e) (Nat.le_refl _) (show ObjOk X.prog X.w _ _ _ (.tup ys) from ⟨hz, its, r', IsTup.new _ _⟩)
    exact ⟨.ref h'.objs.size, _, I2, rfl, q _ (I1.hok.fresh (Nat.le_refl _))⟩
  · obtain ⟨its, r', pl, hz⟩ := I.tuple hq
    exact call_tuple_same pl ⟨.ref p, H, I, rfl, q⟩
def tyV (K : PySem.W.Frag) (T : String) (x : V) (H : Hp) : Prop := match x with
  | .str _ => T = "str"
  | .int _ => T = "int"
  | .ref p => (T = "list" ∧ ∃ xs, SqL K H p xs) ∨ (T = "tuple" ∧ ∃ o, K.lookup p = some o ∧ o.cls = .type "tuple" ∧ o.dict = none) ∨
      (T = "dict" ∧ ((∃ kvs, H p = some (.dK kvs)) ∨ ∃ kvs, H p = some (.dT kvs))) ∨ (T = "set" ∧ ∃ S n, H p = some (.set S n))
  | _ => False
theorem tyV_is {pins : List (Addr × Obj)} {σ : St} {H : Hp} {s : Shared} {T : String} {x : V} {v : Value} (I : Inv X pins σ H s) (r : RelV x v) (ty : tyV X.K T x H) :
    s.TypeIs v T ∧ ∀ a, v = .ref a → ∃ ob, s.heap.get? a = some ob ∧ ob.dict = none := by
  cases x with
  | str z =>
    obtain ⟨t, rfl⟩ := r
    cases (show T = "str" from ty)
    exact ⟨typeIs_str s z t, fun _ e => nomatch e⟩
  | int i =>
    obtain ⟨t, rfl⟩ := r
    cases (show T = "int" from ty)
    exact ⟨typeIs_int s i t, fun _ e => nomatch e⟩
  | ref p =>
    cases r
    rcases ty with ⟨rfl, xs, hq⟩ | ⟨rfl, o, hk, hc, hd⟩ | ⟨rfl, hk⟩ | ⟨rfl, S, n, hk⟩
    · obtain ⟨its, _, pl, _⟩ := I.list hq
      refine ⟨pl.isList.typeIs, fun a e => ?_⟩
      cases e
      obtain ⟨o, n, e, c, hd, _⟩ := pl
      exact ⟨o, e, hd⟩
    · refine ⟨⟨o, I.kIn p o hk, hc⟩, fun a e => ?_⟩
      cases e
      exact ⟨o, I.kIn _ o hk, hd⟩
    · have z : ∃ o, s.heap.get? p = some o ∧ o.ExactDict := by
        rcases hk with ⟨kvs, hk⟩ | ⟨kvs, hk⟩
        · obtain ⟨_, _, _, _, o, _, _, e, ex, _⟩ := I.hok p _ hk
          exact ⟨o, e, ex⟩
        · obtain ⟨_, _, _, _, o, _, _, e, ex, _⟩ := I.hok p _ hk
          exact ⟨o, e, ex⟩
      obtain ⟨o, e, ex⟩ := z
      refine ⟨⟨o, e, ex.1⟩, fun a e2 => ?_⟩
      cases e2
      exact ⟨o, e, ex.2.1⟩
    · obtain ⟨o, _, _, _, e, ex, _⟩ := I.hok p _ hk
      refine ⟨⟨o, e, ex.1⟩, fun a e2 => ?_⟩
      cases e2
      exact ⟨o, e, ex.2.1⟩
  | _ => exact False.elim ty
def tBM0 (K : PySem.W.Frag) (T : String) (r : V → List V → Hp → VK → Prop) (to : TE) : TE := fun σ H Q => to σ H fun x H1 => tyV K T x H1 ∧ r x [] H1 Q
def tBM (K : PySem.W.Frag) (T : String) (r : V → List V → Hp → VK → Prop) (to : TE) (t : TA) : TE := fun σ H Q => to σ H fun x H1 => tyV K T x H1 ∧ t σ H1 fun xs H2 => r x xs H2 Q
variable {o e : Expr} {es : List Expr} {to : TE} {t : TA} {name : Str} {apos cpos : Pos} {T id : String} {r : V → List V → Hp → VK → Prop}
theorem pe_bm0 (pa : PlainAttrs T) (slot : Slot T name id) (hty : typeOf (.builtin id) = pure (.type "method_descriptor")) (hm : MtR X id r) (ho : PE X o to)
    (hbase : attributeBase o name X.env (eval o X.env) = eval o X.env := by rfl) (hline : (apos.endLine == cpos.line) = true := by rfl) : PE X (.Call (.Attribute o name apos) [] [] cpos) (tBM0 X.K T r to) := by
  intro pins s σ H Q I h
  refine wpAny_Call_method0_late hbase hline (thn (ho pins s σ H _ I h) fun v s1 ⟨x, H1, I1, r1, ty, q1⟩ => ?_)
  obtain ⟨h1, h2⟩ := tyV_is I1 r1 ty
  exact ⟨T, id, pa, slot, hty, h1, h2, Calls.callWith_builtin rfl (PySem.evalArgs_none (hm pins s1 σ H1 x [] v [] Q I1 r1 .nil q1))⟩
theorem pe_bm (pa : PlainAttrs T) (slot : Slot T name id) (hty : typeOf (.builtin id) = pure (.type "method_descriptor")) (hm : MtR X id r) (ho : PE X o to) (ha : PA X (e :: es) t)
    (hbase : attributeBase o name X.env (eval o X.env) = eval o X.env := by rfl)
    (hfew : ((backTo cpos (starEach (e :: es) X.env)).all (fun x => !x.1) && (backToKw cpos (keywordEach [] X.env)).all (fun x => x.1.isSome)
      && decide ((e :: es).length + ([] : List Keyword).length + (if ([] : List Keyword).isEmpty then 0 else 1) < 30)) = true := by rfl)
    (hline : (apos.endLine == cpos.line) = true := by rfl) (hs : starEach (e :: es) X.env = (false, eval e X.env) :: starEach es X.env := by rfl) (hplain : (backTo cpos (starEach es X.env)).any (·.1) = false := by rfl) :
    PE X (.Call (.Attribute o name apos) (e :: es) [] cpos) (tBM X.K T r to t) := by
  intro pins s σ H Q I h
  refine wpAny_Call_method_late hbase hfew hline rfl (thn (ho pins s σ H _ I h) fun v s1 ⟨x, H1, I1, r1, ty, q1⟩ => ?_)
  obtain ⟨h1, h2⟩ := tyV_is I1 r1 ty
  refine ⟨T, id, pa, slot, hty, h1, h2, ?_⟩
  have hA := ha cpos pins s1 σ H1 _ I1 q1
  rw [hs] at hA ⊢
  refine Calls.callWith_builtin (by show (false || (backTo cpos (starEach es X.env)).any (·.1)) = false; rw [hplain] <;> rfl) (Calls.evalArgs_plain ?_)
  exact thn hA fun us s2 ⟨vs, H2, I2, r2, q2⟩ => hm pins s2 σ H2 x vs v us Q I2 r1 r2 q2
end
end L2
namespace L2
open PySem PySem.Spec PyProof.Rows
def MtM (X : Cx) (id : String) (r : V → List V → Hp → VK → Prop) : Prop :=
  ∀ (pins : List (Addr × Obj)) (s : Shared) (σ : St) (H : Hp) (x : V) (xs : List V) (v : Value) (us : List Value) (Q : VK), Inv X pins σ H s → RelV x v → Vals xs us → r x xs H Q →
    wpAny (model X.prog X.w) X.A (call (.builtin id) (v :: us)) (EP X pins σ Q) X.xe s
theorem Vals.one : ∀ {x : V} {us : List Value}, Vals [x] us → ∃ u, us = [u] ∧ RelV x u
  | _, _, .cons r .nil => ⟨_, rfl, r⟩
theorem Vals.two : ∀ {x y : V} {us : List Value}, Vals [x, y] us → ∃ u v, us = [u, v] ∧ RelV x u ∧ RelV y v
  | _, _, _, .cons r (.cons q .nil) => ⟨_, _, rfl, r, q⟩
theorem Vals.zero : ∀ {us : List Value}, Vals [] us → us = []
  | _, .nil => rfl
theorem Vals.dropLast {xs : List V} {us : List Value} (h : Vals xs us) : Vals xs.dropLast us.dropLast := by
  induction h with
  | nil => exact .nil
  | cons r t ih =>
    cases t with
    | nil => exact .nil
    | cons q t' => exact .cons r ih
theorem Vals.eraseIdx : ∀ {xs : List V} {us : List Value} (i : Nat), Vals xs us → Vals (xs.eraseIdx i) (us.eraseIdx i)
  | _, _, _, .nil => .nil
  | _, _, 0, .cons _ t => t
  | _, _, i + 1, .cons r t => .cons r (Vals.eraseIdx i t)
theorem Vals.reverse {xs : List V} {us : List Value} (h : Vals xs us) : Vals xs.reverse us.reverse := by
  induction h with
  | nil => exact .nil
  | cons r t ih => rw [List.reverse_cons, List.reverse_cons]; exact Vals.append ih (.cons r .nil)
theorem Vals.rep {xs : List V} {us : List Value} (h : Vals xs us) : ∀ k : Nat, Vals (List.replicate k xs).flatten (List.replicate k us).flatten
  | 0 => .nil
  | k + 1 => by
    rw [List.replicate_succ, List.replicate_succ, List.flatten_cons, List.flatten_cons]
    exact Vals.append h (Vals.rep h k)
theorem erase_last {α : Type} (l : List α) : l.eraseIdx (l.length - 1) = l.dropLast := by
  induction l with
  | nil => rfl
  | cons a r ih =>
    cases r with
    | nil => rfl
    | cons b r =>
      have e : (a :: b :: r).length - 1 = ((b :: r).length - 1) + 1 := by
        have h1 : (a :: b :: r).length = r.length + 2 := rfl
        have h2 : (b :: r).length = r.length + 1 := rfl
        omega
      rw [e, List.eraseIdx_cons_succ, ih]
      all_goals rfl
theorem len_erase {α : Type} : ∀ (l : List α) (i : Nat), (l.eraseIdx i).length ≤ l.length
  | [], _ => Nat.le_refl _
  | _ :: _, 0 => Nat.le_succ _
  | _ :: r, i + 1 => Nat.succ_le_succ (len_erase r i)
theorem foldl_rep (its : List Value) : ∀ (k : Nat) (acc : List Value),
    List.foldl (fun x1 x2 => x1 ++ x2) acc.toArray (List.replicate k its.toArray) = (acc ++ (List.replicate k its).flatten).toArray
  | 0, acc => by simp
  | k + 1, acc => by
    have e : acc.toArray ++ its.toArray = (acc ++ its).toArray := by simp
    have e2 : (acc ++ its) ++ (List.replicate k its).flatten = acc ++ (List.replicate (k + 1) its).flatten := by
      rw [List.replicate_succ, List.flatten_cons, List.append_assoc]
    rw [← e2, ← foldl_rep its k (acc ++ its), ← e, List.replicate_succ, List.foldl_cons]
section
variable {X : Cx} {pins : List (Addr × Obj)} {σ : St} {H : Hp} {s : Shared} {l b : Addr} {xs ys zs : List V}
theorem Inv.lset {its its' : List Value} {n : Nat} {f : Array Value → Array Value} {t' : Nat} (I : Inv X pins σ H s) (hH : H l = some (.lst xs))
    (e : s.heap.get? l = some { cls := .type "list", data := .seq its.toArray n }) (hf : f its.toArray = its'.toArray) (hv : Vals ys its') (hz : ys.length ≤ sizeLine) :
    Inv X pins σ (upd H l (.lst ys)) { s with heap := s.heap.update l (Obj.mapSeq f), toks := t' } := by
  have q := PySem.IsL.update e f
  rw [hf] at q
  refine I.write (x := l) (e := l) (by rw [hH]; exact trivial) (.inl rfl) (fun b' u hb hu => (Heap.get?_update_other s.heap (Obj.mapSeq f) (Ne.symm hb)).trans hu) ⟨_, q⟩ ?_
  exact ⟨hz, its', _, hv, q⟩
theorem Inv.lnew {its : List Value} {t' : Nat} (I : Inv X pins σ H s) (hv : Vals ys its) (hz : ys.length ≤ sizeLine) :
    Inv X pins σ (upd H s.heap.objs.size (.lst ys)) { s with heap := s.heap.push { cls := .type "list", data := .seq its.toArray }, toks := t' } :=
  I.laid (fun _ _ q => Heap.get?_push_of_some _ q) (Nat.le_refl _) ⟨hz, its, 0, hv, Heap.get?_push_size _ rfl⟩
theorem Inv.fresh (I : Inv X pins σ H s) : H s.heap.objs.size = none := I.hok.fresh (Nat.le_refl _)
theorem Inv.lstM (I : Inv X pins σ H s) (hH : H l = some (.lst xs)) : xs.length ≤ sizeLine ∧ ∃ (its : List Value) (n : Nat), Vals xs its ∧ xs.length = its.length ∧ s.heap.get? l = some { cls := .type "list", data := .seq its.toArray n } := by
  obtain ⟨z, its, n, r, e⟩ := I.hok l _ hH
  exact ⟨z, its, n, r, r.length, e⟩
theorem notLongL {n : Nat} (h : n ≤ sizeLine) : Builtin.List.listTooLong n = false := by
  unfold Builtin.List.listTooLong
  exact decide_eq_false (by omega)
end
section
variable {X : Cx}
def rAppend : V → List V → Hp → VK → Prop := fun x vs H Q => ∃ l xs y, x = .ref l ∧ vs = [y] ∧ H l = some (.lst xs) ∧ xs.length < sizeLine ∧ Q .non (upd H l (.lst (xs ++ [y])))
theorem mt_append : MtM X "list.append" rAppend := by
  intro pins s σ H x vs v us Q I rx rv h
  obtain ⟨l, xs, y, rfl, rfl, hH, hz, q⟩ := h
  cases rx
  obtain ⟨u, rfl, ru⟩ := rv.one
  obtain ⟨z, its, n, r, hl, e⟩ := I.lstM hH
  refine call_meets F.slot_list_append ⟨_, e, rfl⟩ F.entry_list_append (F.args_list_append_2 _ _) (PySem.list_append l its.toArray n u (by rw [List.size_toArray]; omega)) ⟨e, ?_⟩
  refine ⟨.non, _, I.lset (its' := its ++ [u]) hH e (by simp) (r.append (.cons ru .nil)) ?_, rfl, q⟩
  rw [List.length_append, List.length_singleton]
  omega
def rExtend : V → List V → Hp → VK → Prop := fun x vs H Q => ∃ l b xs zs, x = .ref l ∧ vs = [.ref b] ∧ H l = some (.lst xs) ∧ H b = some (.lst zs) ∧ xs.length + zs.length ≤ sizeLine ∧ Q .non (upd H l (.lst (xs ++ zs)))
theorem mt_extend : MtM X "list.extend" rExtend := by
  intro pins s σ H x vs v us Q I rx rv h
  obtain ⟨l, b, xs, zs, rfl, rfl, hH, hB, hz, q⟩ := h
  cases rx
  obtain ⟨u, rfl, ru⟩ := rv.one
  cases ru
  obtain ⟨z, its, n, r, hl, e⟩ := I.lstM hH
  obtain ⟨z2, its2, n2, r2, hl2, e2⟩ := I.lstM hB
  have hsz : its.toArray.size + its2.toArray.size ≤ sizeLine := by rw [List.size_toArray, List.size_toArray]; omega
  have hlong : ¬ (!its.toArray.isEmpty && Builtin.List.listTooLong (its.toArray.size + its2.toArray.size)) = true := by
    rw [notLongL hsz, Bool.and_false]
    exact Bool.false_ne_true
  refine call_meets F.slot_list_extend ⟨_, e, rfl⟩ F.entry_list_extend (F.args_list_extend_2 _ _)
    (AutoSeq1.list_extend_list_list_0 l its.toArray n b its2.toArray n2 hlong (by rw [List.size_toArray]; omega) (by omega)) ⟨e, e2, ?_⟩
  refine ⟨.non, _, I.lset (its' := its ++ its2) hH e (by simp) (r.append r2) ?_, rfl, q⟩
  rw [List.length_append]
  omega
def rPop : V → List V → Hp → VK → Prop := fun x vs H Q => ∃ l xs y, x = .ref l ∧ vs = [] ∧ H l = some (.lst xs) ∧ xs[xs.length - 1]? = some y ∧ Q y (upd H l (.lst xs.dropLast))
theorem mt_pop : MtM X "list.pop" rPop := by
  intro pins s σ H x vs v us Q I rx rv h
  obtain ⟨l, xs, y, rfl, rfl, hH, hy, q⟩ := h
  cases rx
  have hus := rv.zero
  subst hus
  obtain ⟨z, its, n, r, hl, e⟩ := I.lstM hH
  obtain ⟨u, hu, ru⟩ := r.get hy
  have hy' : its.toArray[its.toArray.size - 1]? = some u := by
    show its.toArray[its.length - 1]? = some u
    rw [← Array.getElem?_toList, ← hl]
    exact hu
  refine call_meets F.slot_list_pop ⟨_, e, rfl⟩ F.entry_list_pop (F.args_list_pop_1 _) (MeetsSeq.list_pop_last l its.toArray n u hy' (by rw [List.size_toArray]; omega)) ⟨e, ?_⟩
  refine ⟨y, _, I.lset (its' := its.dropLast) hH e ?_ r.dropLast ?_, ru, q⟩
  · show its.toArray.eraseIdxIfInBounds (its.toArray.size - 1) = its.dropLast.toArray
    rw [List.size_toArray, List.eraseIdxIfInBounds_toArray, erase_last]
  · rw [List.length_dropLast]
    omega
def rPopAt : V → List V → Hp → VK → Prop := fun x vs H Q => ∃ l xs i k y, x = .ref l ∧ vs = [.int i] ∧ H l = some (.lst xs) ∧ -(2 ^ 63) ≤ i ∧ i < 2 ^ 63 ∧ seqIndex? i xs.length = some k ∧ xs[k]? = some y ∧ Q y (upd H l (.lst (xs.eraseIdx k)))
theorem mt_popAt : MtM X "list.pop" rPopAt := by
  intro pins s σ H x vs v us Q I rx rv h
  obtain ⟨l, xs, i, k, y, rfl, rfl, hH, h1, h2, hk, hy, q⟩ := h
  cases rx
  obtain ⟨u, rfl, ru⟩ := rv.one
  obtain ⟨t, rfl⟩ := ru
  obtain ⟨z, its, n, r, hl, e⟩ := I.lstM hH
  obtain ⟨w, hw, rw'⟩ := r.get hy
  refine call_meets F.slot_list_pop ⟨_, e, rfl⟩ F.entry_list_pop (F.args_list_pop_2 _ _)
    (MeetsSeq.list_pop_at l its.toArray n i t k w (fitsIndex_both h1 h2) (by rw [List.size_toArray, ← hl]; exact hk) (by rw [← Array.getElem?_toList]; exact hw) (by rw [List.size_toArray]; omega)) ⟨e, ?_⟩
  refine ⟨y, _, I.lset (its' := its.eraseIdx k) hH e ?_ (r.eraseIdx k) ?_, rw', q⟩
  · show its.toArray.eraseIdxIfInBounds k = (its.eraseIdx k).toArray
    rw [List.eraseIdxIfInBounds_toArray]
  · have := len_erase xs k
    omega
def rReverse : V → List V → Hp → VK → Prop := fun x vs H Q => ∃ l xs, x = .ref l ∧ vs = [] ∧ H l = some (.lst xs) ∧ Q .non (upd H l (.lst xs.reverse))
theorem mt_reverse : MtM X "list.reverse" rReverse := by
  intro pins s σ H x vs v us Q I rx rv h
  obtain ⟨l, xs, rfl, rfl, hH, q⟩ := h
  cases rx
  have hus := rv.zero
  subst hus
  obtain ⟨z, its, n, r, hl, e⟩ := I.lstM hH
  refine call_meets F.slot_list_reverse ⟨_, e, rfl⟩ F.entry_list_reverse (F.args_list_reverse_1 _) (AutoSeq1.list_reverse_list_0 l its.toArray n (by rw [List.size_toArray]; omega)) ⟨e, ?_⟩
  refine ⟨.non, _, I.lset (its' := its.reverse) hH e (by simp) r.reverse ?_, rfl, q⟩
  rw [List.length_reverse]
  omega
def rClear : V → List V → Hp → VK → Prop := fun x vs H Q => ∃ l xs, x = .ref l ∧ vs = [] ∧ H l = some (.lst xs) ∧ Q .non (upd H l (.lst []))
theorem mt_clear : MtM X "list.clear" rClear := by
  intro pins s σ H x vs v us Q I rx rv h
  obtain ⟨l, xs, rfl, rfl, hH, q⟩ := h
  cases rx
  have hus := rv.zero
  subst hus
  obtain ⟨z, its, n, r, hl, e⟩ := I.lstM hH
  refine call_meets F.slot_list_clear ⟨_, e, rfl⟩ F.entry_list_clear (F.args_list_clear_1 _) (AutoSeq1.list_clear_list_0 l its.toArray n (by rw [List.size_toArray]; omega)) ⟨e, ?_⟩
  exact ⟨.non, _, I.lset (its' := []) (ys := []) hH e rfl .nil (Nat.zero_le _), rfl, q⟩
def rCat : R2 := fun x y H Q => ∃ l b xs zs, x = .ref l ∧ y = .ref b ∧ H l = some (.lst xs) ∧ H b = some (.lst zs) ∧ xs.length + zs.length ≤ sizeLine ∧ ∀ p, H p = none → Q (.ref p) (upd H p (.lst (xs ++ zs)))
theorem op_cat : OpR X (binaryOp .Add) rCat := by
  intro pins s σ H x y v u Q I rx ry h
  obtain ⟨l, b, xs, zs, rfl, rfl, hH, hB, hz, q⟩ := h
  cases rx
  cases ry
  obtain ⟨z, its, n, r, hl, e⟩ := I.lstM hH
  obtain ⟨z2, its2, n2, r2, hl2, e2⟩ := I.lstM hB
  refine PySem.P.add_list e e2 ?_ (by rw [List.size_toArray, List.size_toArray]; omega)
  have ea : its.toArray ++ its2.toArray = (its ++ its2).toArray := by simp
  rw [ea]
  exact ⟨.ref _, _, I.lnew (t' := s.toks) (r.append r2) (by rw [List.length_append]; omega), rfl, q _ I.fresh⟩
def rRep : R2 := fun x y H Q => ∃ l k xs, x = .ref l ∧ y = .int k ∧ H l = some (.lst xs) ∧ -(2 ^ 63) ≤ k ∧ k < 2 ^ 63 ∧ xs.length * k.toNat ≤ sizeLine ∧
  ∀ p, H p = none → Q (.ref p) (upd H p (.lst (List.replicate k.toNat xs).flatten))
theorem len_rep {α : Type} (xs : List α) (k : Nat) : (List.replicate k xs).flatten.length = k * xs.length := by
  induction k with
  | zero => simp
  | succ k ih => rw [List.replicate_succ, List.flatten_cons, List.length_append, ih, Nat.succ_mul, Nat.add_comm]
theorem op_rep : OpR X (binaryOp .Mult) rRep := by
  intro pins s σ H x y v u Q I rx ry h
  obtain ⟨l, k, xs, rfl, rfl, hH, h1, h2, hz, q⟩ := h
  cases rx
  obtain ⟨t, rfl⟩ := ry
  obtain ⟨z, its, n, r, hl, e⟩ := I.lstM hH
  have hlen : its.toArray.size * k.toNat ≤ sizeLine := by rw [List.size_toArray, ← hl]; exact hz
  have hcap : ¬ its.toArray.size * k.toNat > (2 ^ 63 - 1) / 8 := by
    have : (sizeLine : Nat) ≤ (2 ^ 63 - 1) / 8 := by decide
    omega
  have hfit : ¬ (!Builtin.List.listFitsIndex k) = true := by
    rw [fitsIndex_both h1 h2]
    exact Bool.false_ne_true
  have hlong : ¬ Builtin.List.listTooLong (its.toArray.size * k.toNat) = true := by
    rw [notLongL hlen]
    exact Bool.false_ne_true
  have hnew : List.foldl (fun x1 x2 => x1 ++ x2) #[] (List.replicate (if its.toArray.isEmpty = true then 0 else k.toNat) its.toArray) = (List.replicate k.toNat its).flatten.toArray := by
    have f0 : ∀ m : Nat, List.foldl (fun x1 x2 => x1 ++ x2) #[] (List.replicate m its.toArray) = (List.replicate m its).flatten.toArray := fun m => by
      have := foldl_rep its m []
      rw [List.nil_append] at this
      exact this
    rw [f0]
    cases its with
    | nil => simp
    | cons a r' => rw [if_neg (by simp)]
  refine wpAny_binaryOp_repeat_ref (T := "list") (U := "int") (by decide) ⟨_, e, rfl⟩ (fun s' => typeIs_int s' k t) noFill_list_mul F.fills_int_mul F.slot_int_rmul repeat_list F.slot_int_index.lookup
    (call_meets F.slot_int_rmul (typeIs_int s k t) F.entry_int_rmul (F.args_int_rmul_2 _ _) (int___rmul___int_list k t l its.toArray n)
      ⟨e, rfl, ⟨_, e, rfl⟩, call_meets F.slot_list_mul ⟨_, e, rfl⟩ F.entry_list_mul (F.args_list_mul_2 _ _) (AutoListH.list___mul___list_int_3 l its.toArray n k t hfit hcap hlong) ⟨e, ?_⟩⟩)
  rw [hnew]
  exact ⟨.ref _, _, I.lnew (t' := s.toks) (r.rep k.toNat) (by rw [len_rep, Nat.mul_comm]; exact hz), rfl, q _ I.fresh⟩
theorem del_list {pins : List (Addr × Obj)} {s : Shared} {σ : St} {H : Hp} {l : Addr} {xs : List V} {i : Int} {t : Tok} {k : Nat} {Q : Unit → Shared → Prop} (I : Inv X pins σ H s) (hH : H l = some (.lst xs))
    (h1 : -(2 ^ 63) ≤ i) (h2 : i < 2 ^ 63) (hk : seqIndex? i xs.length = some k) (h : ∀ s', Inv X pins σ (upd H l (.lst (xs.eraseIdx k))) s' → Q () s') :
    wpAny (model X.prog X.w) X.A (delItem (.ref l) (.int i t)) Q X.xe s := by
  obtain ⟨z, its, n, r, hl, e⟩ := I.lstM hH
  refine PySem.P.delItem_list (k := k) e (fitsIndex_both h1 h2) (by rw [List.size_toArray, ← hl]; exact hk) (h _ ?_) (by rw [List.size_toArray]; omega)
  refine I.lset (its' := its.eraseIdx k) (t' := s.toks) hH e ?_ (r.eraseIdx k) ?_
  · show its.toArray.eraseIdxIfInBounds k = (its.eraseIdx k).toArray
    rw [List.eraseIdxIfInBounds_toArray]
  · have := len_erase xs k
    omega
end
section
variable {prog : Program} {w : World} {A : Around} {E : Value → Shared → Prop} {s : Shared}
theorem splice_eq (its its2 : List Value) (a c : Nat) : its.toArray.extract 0 a ++ its2.toArray ++ its.toArray.extract c its.toArray.size = (its.take a ++ its2 ++ its.drop c).toArray := by
  apply Array.toList_inj.mp
  first
    | (simp
       exact List.take_of_length_le (by simp))
    | simp [List.take_of_length_le]
    | simp
theorem bounds_run {a c n : Nat} (hac : a ≤ c) (hc : c ≤ n) : sliceBounds (some (a : Int)) (some (c : Int)) none n = ((a : Int), (c : Int), 1) := by
  simp only [sliceBounds, Option.getD_none]
  have h1 : ¬ ((a : Int) < 0) := by omega
  have h2 : ¬ ((c : Int) < 0) := by omega
  simp only [h1, h2, if_false, show (1 : Int) > 0 by decide, if_true]
  congr 1
  · omega
  · congr 1; omega
set_option maxRecDepth 100000 in
theorem setItem_slice {l b sl : Addr} {items new : Array Value} {n n2 : Nat} {vl vu : Value} {a c : Nat} {Q : Unit → Shared → Prop}
    (e : s.heap.get? l = some { cls := .type "list", data := .seq items n }) (e2 : s.heap.get? b = some { cls := .type "list", data := .seq new n2 }) (hne : l ≠ b)
    (hs : s.heap.IsSliceOf sl vl vu .none) (pl : IsPart vl (some (a : Int))) (pu : IsPart vu (some (c : Int))) (hac : a ≤ c) (hc : c ≤ items.size)
    (hsz : items.size + new.size ≤ sizeLine) (h : Q () { s with heap := s.heap.update l (Obj.mapSeq fun xs => xs.extract 0 a ++ new ++ xs.extract c xs.size) }) :
    wpAny (model prog w) A (setItem (.ref l) (.ref sl) (.ref b)) Q E s := by
  have hl : s.heap.IsList l items := PySem.IsL.isList e
  have hb : s.heap.IsList b new := PySem.IsL.isList e2
  obtain ⟨os, hos, hcs, hds⟩ := id hs
  have hTs : s.TypeIs (.ref sl) "slice" := ⟨os, hos, hcs⟩
  have hstep : ¬ ((rawPart none == rawInt 0) = true) := Bool.false_ne_true
  have hsame : Builtin.List.listSameRef (.ref l) (.ref b) = false := by
    unfold Builtin.List.listSameRef
    exact beq_eq_false_iff_ne.mpr hne
  have hmax : (max (a : Int) (c : Int)).toNat = c := by omega
  have hz' : ((fun xs : Array Value => xs.extract 0 a ++ new ++ xs.extract c xs.size) items).size ≤ sizeLine + 1 := by
    simp only [Array.size_append, Array.size_extract]
    omega
  unfold setItem
  try with_reducible refine wpAny_holding ?_
  first | refine wpAny_bind (wpAny_pure ?_) | skip
  refine wpAny_bind (wpAny_sequenceKey hl.typeIs (by decide) ?_)
  refine wpAny_bind (wpAny_callSpecial?_slot (name := Str.ofString "__setitem__") hl.typeIs slot_list_setitem
    (wpAny_call_entry slot_list_setitem hl.typeIs entry_list_setitem ?_ (args_list_setitem _ _ _)))
  show wpAny _ _ (Builtin.List.listSubscript? (.ref sl) >>= _) _ _ s
  refine wpAny_bind ?_
  unfold Builtin.List.listSubscript?
  refine wpAny_bind (wpAny_specialOf hTs slice_no_index ?_)
  simp only [Option.isNone_none, if_true]
  refine wpAny_pure ?_
  show wpAny _ _ (typeOf (.ref sl) >>= _) _ _ s
  refine wpAny_bind (wpAny_typeOf hTs ?_)
  first
    | rw [if_neg (by decide)]
    | refine PySem.W.KFB.if_not (by decide) ?_
  rw [listSliceParts_eq]
  refine wpAny_bind (wpAny_bind (wpAny_field hos hds (x := .none) rfl (wpAny_bind (wpAny_listPart .none ?_))))
  rw [if_neg hstep]
  refine wpAny_bind (wpAny_field hos hds (x := vl) rfl (wpAny_bind (wpAny_listPart pl ?_)))
  refine wpAny_bind (wpAny_field hos hds (x := vu) rfl (wpAny_bind (wpAny_listPart pu (wpAny_pure ?_))))
  first
    | simp only [hsame, Bool.false_eq_true, if_false]
    | refine PySem.W.KFB.if_not hsame ?_
    | (dsimp only
       rw [if_neg (by rw [hsame]; exact Bool.false_ne_true)])
  refine wpAny_bind (m := Builtin.List.listAllItems (.ref b) "must assign iterable to extended slice") ?_
  unfold Builtin.List.listAllItems
  refine wpAny_bind (wpAny_typeOf hb.typeIs ?_)
  first
    | refine PySem.W.KFB.if_so (by decide) ?_
    | rw [if_pos (by decide)]
    | simp only [beq_self_eq_true, Bool.true_or, if_true]
  unfold Builtin.List.listItems
  refine wpAny_bind (wpAny_seqItems e2 rfl (wpAny_pure ?_))
  refine wpAny_bind (wpAny_bind (wpAny_seqItems e rfl (wpAny_pure ?_)))
  refine wpAny_bind (wpAny_of_eq ((sliceIndices_raw (some (a : Int)) (some (c : Int)) none items.size (by simp)).trans (congrArg (pure : Int × Int × Int → Sem (Int × Int × Int)) (bounds_run hac hc))) ?_)
  show wpAny _ _ (if ((1 : Int) == 1) = true then _ else _) _ _ s
  rw [if_pos (by decide)]
  refine wpAny_bind (wpAny_rule ?_)
  first
    | simp only [notLongL hsz, Bool.false_eq_true, if_false]
    | refine PySem.W.KFB.if_not (notLongL hsz) ?_
  first | refine wpAny_bind (wpAny_pure ?_) | skip
  show wpAny _ _ (updateSeq l (fun xs => xs.extract 0 ((a : Int)).toNat ++ new ++ xs.extract (max (a : Int) (c : Int)).toNat xs.size) >>= _) _ _ s
  rw [hmax, Int.toNat_natCast]
  refine wpAny_bind (wpAny_updateSeq (hz := Nat.le_trans (Nat.le_add_right _ _) hsz) (_hz' := hz') e rfl ?_)
  refine wpAny_bind (wpAny_letGo ?_)
  first
    | exact wpAny_bind (wpAny_pure (wpAny_pure ⟨.none, rfl, wpAny_pure h⟩))
    | exact wpAny_pure ⟨.none, rfl, wpAny_pure h⟩
end
section
variable {X : Cx}
theorem set_slice {pins : List (Addr × Obj)} {s : Shared} {σ : St} {H : Hp} {l b sl : Addr} {xs ys : List V} {a c : Int} {vl vu : Value} {Q : Unit → Shared → Prop} (I : Inv X pins σ H s)
    (hH : H l = some (.lst xs)) (hB : H b = some (.lst ys)) (hne : l ≠ b) (hs : s.heap.IsSliceOf sl vl vu .none) (ra : RelV (.int a) vl) (rc : RelV (.int c) vu) (h0 : 0 ≤ a) (hac : a ≤ c) (hc : c ≤ xs.length)
    (hz : xs.length + ys.length ≤ sizeLine) (h : ∀ s', Inv X pins σ (upd H l (.lst (xs.take a.toNat ++ ys ++ xs.drop c.toNat))) s' → Q () s') :
    wpAny (model X.prog X.w) X.A (setItem (.ref l) (.ref sl) (.ref b)) Q X.xe s := by
  obtain ⟨ta, rfl⟩ := ra
  obtain ⟨tc, rfl⟩ := rc
  obtain ⟨z, its, n, r, hl, e⟩ := I.lstM hH
  obtain ⟨z2, its2, n2, r2, hl2, e2⟩ := I.lstM hB
  obtain ⟨a', rfl⟩ := Int.eq_ofNat_of_zero_le h0
  obtain ⟨c', rfl⟩ := Int.eq_ofNat_of_zero_le (Int.le_trans h0 hac)
  simp only [Int.toNat_natCast] at h
  refine setItem_slice (a := a') (c := c') e e2 hne hs (.int _ _) (.int _ _) (by omega) (by rw [List.size_toArray]; omega) (by rw [List.size_toArray, List.size_toArray]; omega) (h _ ?_)
  refine I.lset (its' := its.take a' ++ its2 ++ its.drop c') (t' := s.toks) hH e ?_ (Vals.append (Vals.append (r.take _) r2) (r.drop _)) ?_
  · exact splice_eq its its2 a' c'
  · rw [List.length_append, List.length_append, List.length_take, List.length_drop]
    omega
end
end L2
namespace Att
open PySem PySem.W PySem.Calls PyProof.Rows
theorem ints_of_wellAll {P : Params} {h : Heap} : ∀ (ns : List Int) (vs : List Value), WellAll P h vs (ns.map WData.int) → IntsAre vs ns := by
  intro ns
  induction ns with
  | nil =>
    intro vs w
    rw [List.map_nil] at w
    cases w
    exact .nil
  | cons n ns ih =>
    intro vs w
    rw [List.map_cons] at w
    cases w with
    | cons a b =>
      cases a
      exact .cons _ _ (ih _ b)
theorem script_of {l : OpenLaw} {n : Nat} (hn : l.most = some n) {P : Params} {h : Heap} {args : List WData} {vals : List Value}
    (hpre : l.row.toRowW.claim.pre args = true) (hwl : WellAll P h vals args) :
    ∃ a vs ns, vals = [Value.ref a] ∧ args = [WData.list (ns.map WData.int)] ∧ h.get? a = some { cls := .type "list", data := .seq vs.toArray } ∧ IntsAre vs ns ∧ ns.length ≤ n := by
  have hsh : WShape.hasAll [] args [.list .int] = true := (pre_splitW hpre).1
  have hc : l.pre.holds [] { args := args } = true := (pre_splitW hpre).2
  obtain ⟨d, r, rfl, h1, h2⟩ := hasAllW_cons hsh
  obtain rfl := hasAllW_nil h2
  obtain ⟨xs, rfl, h3⟩ := hasW_list h1
  obtain ⟨ns, rfl⟩ := items_int h3
  have hlen : ns.length ≤ n := by
    unfold OpenLaw.pre at hc
    have h4 : (WTm.not (.lt (.lit (.int (n : Int))) (.len (.arg 0)))).holds [] { args := [.list (ns.map .int)] } = true := by
      have h4 := (holds_andW hc).1
      rw [hn] at h4
      exact h4
    have h5 := condW_of h4 (w_not (w_lt w_lit (w_len_list (w_arg rfl))))
    rw [List.length_map] at h5
    refine Nat.le_of_not_lt fun q => ?_
    have q' : (n : Int) < ((ns.length : Nat) : Int) := by omega
    first
      | (rw [decide_eq_true q'] at h5; exact absurd h5 (by decide))
      | (simp at h5; omega)
  cases hwl with
  | cons w1 w2 =>
    cases w2
    cases w1 with
    | list ho hall => exact ⟨_, _, ns, rfl, rfl, ho, ints_of_wellAll ns _ hall, hlen⟩
theorem post_true (l : OpenLaw) (args : List WData) : l.row.toRowW.claim.post args (.bool true) args = true :=
  postW_of (r := l.row.toRowW) (X := (true == true))
    (show WShape.has [] (.bool true) .bool = true by first | rfl | decide | simp [WShape.has, WShape.arms, WShape.armsAll])
    (show (WTm.eq .res (.lit (.bool true))).value [] { args := args, res := some (.bool true), after := args } = some (.bool (true == true)) from w_eq_bool (w_res rfl) w_lit) rfl
theorem attach {l : OpenLaw} {n : Nat} {q : Program} {loose : List Str} {XP : (Str → Option Value) → Heap → Prop} {YP : World → Heap → Prop} {d : DefRec} {x : Str}
    (hn : l.most = some n) (hdf : d.params.defaults = [])
    (hbind : ∀ pm cd doc v : Value, bindArgs (docDef d.name d.params d.body d.scope pm cd doc) ⟨[v], []⟩ = pure [(x, v)])
    (hx : d.scope.names.lookup x = some .local ∨ d.scope.names.lookup x = some .cell)
    (hk : d.scope.kind = .function) (hco : d.scope.isCoroutine = false) (hgen : d.scope.isGenerator = false)
    (body : ∀ (w : World) (s₀ s₁ s : Shared) (mg mb : Str → Option Value) (fa : Addr) (o : Obj) (pm cd doc : Value) (a : Addr) (vs : List Value) (ns : List Int),
      Ground q loose [] XP w s₀ mg mb s₁.heap → YP w s₁.heap →
      s₁.heap.get? fa = some o → o.data = .func (docDef d.name d.params d.body d.scope pm cd doc) → s₁.heap.CodeRec cd d.name → mg d.name = some (.ref fa) →
      s₁.heap.get? a = some { cls := .type "list", data := .seq vs.toArray } → IntsAre vs ns → ns.length ≤ n →
      s.gens = #[] → s.os = s₁.os →
      Fr s₁.heap s₁.heap.objs.size s.heap (bindL (envOfC d.name d.scope s₁.heap.objs.size fa cd).kindOf [(x, .ref a)] fun _ => none) →
      Cl s₁.heap.objs.size (cellsFrom (s₁.heap.objs.size + 1) d.scope.names []) s.heap (bindC (envOfC d.name d.scope s₁.heap.objs.size fa cd).kindOf [(x, .ref a)] fun _ => none) →
      wpAny (model l.prog w) (callerA.deeper (envOfC d.name d.scope s₁.heap.objs.size fa cd)) (execs d.body (envOfC d.name d.scope s₁.heap.objs.size fa cd))
        (fun f s' => f = .ret (.bool true) ∧ OldK s₁.heap s'.heap ∧ s'.os = s₁.os ∧ AllBare s'.gens) (fun _ _ => False) s) :
    WalkO q loose XP YP l.row.toRowW d [] (fun f vs => PySem.call f vs) := by
  intro w s₀ s₁ mg mb G Y fa o pm cd doc dV kV ho hd hcd hD hmg hg args vals as hpre hlay hrd hwl hlo
  obtain rfl : dV = .none := Dflts.none hD hdf
  obtain rfl : kV = .none := Dflts.noKw hD
  obtain ⟨a, vs, ns, rfl, rfl, hobj, hints, hlen⟩ := script_of hn hpre hwl
  refine enter_call ?_
  refine call_cells_ret (o := o) (by rw [depth_caller]; decide) ho (fd_plain hd) G.T.nolimit hcd (hbind pm cd doc (.ref a)) (fun y hy => ?_) (fun h₁ tk F X => ?_) hco hgen hk
  · obtain rfl : y = (x, Value.ref a) := List.mem_singleton.mp hy
    rcases hx with e | e
    · exact .inl e
    · exact .inr ⟨e, cellsFrom_some _ _ _ (.inl e)⟩
  · refine wpAny_mono (body w s₀ s₁ { s₁ with heap := h₁, toks := tk } mg mb fa o pm cd doc a vs ns G Y ho (fd_plain hd) hcd hmg hobj hints hlen hg rfl F X) (fun f s' hq => ?_) (fun _ _ hq => hq)
    obtain ⟨rfl, h2, h3, h4⟩ := hq
    exact ⟨.inl ⟨.bool true, .bool true, [], rfl, fun _ => rfl, .bool true, post_true l _, fun _ => ⟨List.Pairwise.nil, fun _ hm => (nomatch hm)⟩⟩, h2, h3, h4⟩
theorem attach_call {l : OpenLaw} {n : Nat} {q : Program} {loose : List Str} {XP : (Str → Option Value) → Heap → Prop} {YP : World → Heap → Prop} {d : DefRec}
    (hn : l.most = some n) (hdf : d.params.defaults = [])
    (call : ∀ (w : World) (s₀ s₁ : Shared) (mg mb : Str → Option Value) (fa : Addr) (o : Obj) (pm cd doc : Value) (a : Addr) (vs : List Value) (ns : List Int),
      Ground q loose [] XP w s₀ mg mb s₁.heap → YP w s₁.heap →
      s₁.heap.get? fa = some o → o.data = .func (docDef d.name d.params d.body d.scope pm cd doc) → s₁.heap.CodeRec cd d.name → mg d.name = some (.ref fa) →
      s₁.heap.get? a = some { cls := .type "list", data := .seq vs.toArray } → IntsAre vs ns → ns.length ≤ n → s₁.gens = #[] →
      codeAny (model l.prog w) callerA (.call (.ref fa) ⟨[.ref a], []⟩) (fun r s' => r = .ok (.ret (.bool true)) ∧ OldK s₁.heap s'.heap ∧ s'.os = s₁.os ∧ AllBare s'.gens) s₁) :
    WalkO q loose XP YP l.row.toRowW d [] (fun f vs => PySem.call f vs) := by
  intro w s₀ s₁ mg mb G Y fa o pm cd doc dV kV ho hd hcd hD hmg hg args vals as hpre hlay hrd hwl hlo
  obtain rfl : dV = .none := Dflts.none hD hdf
  obtain rfl : kV = .none := Dflts.noKw hD
  obtain ⟨a, vs, ns, rfl, rfl, hobj, hints, hlen⟩ := script_of hn hpre hwl
  refine enter_call (codeAny_mono (call w s₀ s₁ mg mb fa o pm cd doc a vs ns G Y ho (fd_plain hd) hcd hmg hobj hints hlen hg) fun r s' hq => ?_)
  obtain ⟨rfl, h2, h3, h4⟩ := hq
  exact ⟨.inl ⟨.bool true, .bool true, [], rfl, fun _ => rfl, .bool true, post_true l _, fun _ => ⟨List.Pairwise.nil, fun _ hm => (nomatch hm)⟩⟩, h2, h3, h4⟩
theorem attachN {l : OpenLaw} {n : Nat} {q : Program} {loose : List Str} {XP : (Str → Option Value) → Heap → Prop} {YP : World → Heap → Prop} {d : DefRec} {x : Str}
    (hn : l.most = some n) (hdf : d.params.defaults = [])
    (hbind : ∀ pm cd doc v : Value, bindArgs (docDef d.name d.params d.body d.scope pm cd doc) ⟨[v], []⟩ = pure [(x, v)])
    (hx : d.scope.names.lookup x = some .local ∨ d.scope.names.lookup x = some .cell)
    (hk : d.scope.kind = .function) (hco : d.scope.isCoroutine = false) (hgen : d.scope.isGenerator = false)
    (body : ∀ (w : World) (s₀ s₁ s : Shared) (mg mb : Str → Option Value) (fa : Addr) (o : Obj) (pm cd doc : Value) (a : Addr) (vs : List Value) (ns : List Int),
      Ground q loose [] XP w s₀ mg mb s₁.heap → YP w s₁.heap →
      s₁.heap.get? fa = some o → o.data = .func (docDef d.name d.params d.body d.scope pm cd doc) → s₁.heap.CodeRec cd d.name → mg d.name = some (.ref fa) →
      s₁.heap.get? a = some { cls := .type "list", data := .seq vs.toArray } → IntsAre vs ns → ns.length ≤ n →
      s.gens = #[] → s.os = s₁.os →
      Fr s₁.heap s₁.heap.objs.size s.heap (bindL (envOfC d.name d.scope s₁.heap.objs.size fa cd).kindOf [(x, .ref a)] fun _ => none) →
      Cl s₁.heap.objs.size (cellsFrom (s₁.heap.objs.size + 1) d.scope.names []) s.heap (bindC (envOfC d.name d.scope s₁.heap.objs.size fa cd).kindOf [(x, .ref a)] fun _ => none) →
      wpAny (model l.prog w) (callerA.deeper (envOfC d.name d.scope s₁.heap.objs.size fa cd)) (execs d.body (envOfC d.name d.scope s₁.heap.objs.size fa cd))
        (fun f s' => f = .ret (.bool true) ∧ (∀ b o, s₁.heap.get? b = some o → s'.heap.get? b = some o) ∧ s'.os = s₁.os ∧ s'.gens = #[]) (fun _ _ => False) s) :
    WalkN q loose XP YP l.row.toRowW d [] (fun f vs => PySem.call f vs) := by
  intro w s₀ s₁ mg mb G Y fa o pm cd doc dV kV ho hd hcd hD hmg hg args vals as hpre hlay hrd hwl hlo
  obtain rfl : dV = .none := Dflts.none hD hdf
  obtain rfl : kV = .none := Dflts.noKw hD
  obtain ⟨a, vs, ns, rfl, rfl, hobj, hints, hlen⟩ := script_of hn hpre hwl
  refine enter_callW ?_
  refine call_cells_ret (o := o) (by rw [depth_caller]; decide) ho (fd_plain hd) G.T.nolimit hcd (hbind pm cd doc (.ref a)) (fun y hy => ?_) (fun h₁ tk F X => ?_) hco hgen hk
  · obtain rfl : y = (x, Value.ref a) := List.mem_singleton.mp hy
    rcases hx with e | e
    · exact .inl e
    · exact .inr ⟨e, cellsFrom_some _ _ _ (.inl e)⟩
  · refine wpAny_mono (body w s₀ s₁ { s₁ with heap := h₁, toks := tk } mg mb fa o pm cd doc a vs ns G Y ho (fd_plain hd) hcd hmg hobj hints hlen hg rfl F X) (fun f s' hq => ?_) (fun _ _ hq => hq)
    obtain ⟨rfl, h2, h3, h4⟩ := hq
    exact ⟨.inl ⟨.bool true, .bool true, [], rfl, fun _ => rfl, .bool true, post_true l _, fun _ => ⟨List.Pairwise.nil, fun _ hm => (nomatch hm)⟩⟩, h2, h3, h4⟩
section
variable {prog : Program} {w : World} {A : Around} {E : Value → Shared → Prop} {s : Shared} {K : Frag}
theorem call_fn {R : Result → Shared → Prop} {name qual : Str} {params : Arguments} {body : List Stmt} {scope : Scope} {dV kV doc pm cdv ct oc : Value} {an od : Option Addr} {osl : Array (Option Value)} {f : Addr} {args : Args} {binds : List (Str × Value)}
    (X : K.In s.heap) (hlim : s.heap.NoLimit) (ho : K.lookup f = some ⟨oc, od, .func (fnOf name qual params body scope dV kV doc pm an cdv ct), osl⟩) (hcd : codeIn K cdv qual = true) (hroom : A.depth < recursionLimit)
    (hbind : BindsTo s (fnOf name qual params body scope dV kV doc pm an cdv ct) args binds)
    (hkind : (binds.all fun y => scope.names.lookup y.1 == some .local || scope.names.lookup y.1 == some .cell) = true)
    (h : ∀ s₁, InCallC s s.heap.objs.size (bindL (envOfC qual scope s.heap.objs.size f cdv).kindOf binds fun _ => none) (cellsFrom (s.heap.objs.size + 1) scope.names [])
        (bindC (envOfC qual scope s.heap.objs.size f cdv).kindOf binds fun _ => none) s₁ →
      wpAny (model prog w) (A.deeper (envOfC qual scope s.heap.objs.size f cdv)) (execs body (envOfC qual scope s.heap.objs.size f cdv))
        (fun fl s' => R (.ok (.ret (match fl with | .ret v => v | _ => .none))) s')
        (fun e s' => wpAny (model prog w) (A.deeper (envOfC qual scope s.heap.objs.size f cdv)) (leaving (envOfC qual scope s.heap.objs.size f cdv) e) (fun _ s'' => R (.error e) s'') (fun e' s'' => R (.error e') s'') s') s₁)
    (hco : scope.isCoroutine = false) (hgen : scope.isGenerator = false) (hk : scope.kind = .function) : codeAny (model prog w) A (.call (.ref f) args) R s := by
  refine codeAny_call_function hroom (X _ _ ho) rfl hco hgen rfl (codeRec_of X hcd) (hbind _ _ _ _ ?_)
  refine wpAny_newFunctionEnv_cells hk (kindsX hkind _) fun env he s₁ x => ?_
  subst he
  exact ⟨hlim.keeps x.toInCall.keep, codeAny_func (h s₁ x)⟩
theorem make_obj {R : Result → Shared → Prop} {C fI : Addr} {rest : List Value} {kw : List (Str × Value)}
    (X : K.In s.heap) (hm : makesIn K C = true) (hi : findIn K (.ref C) "__init__" = some (some (.ref fI))) (hf : isFn K (.ref fI) = true)
    (h : codeAny (model prog w) (A.under (.builtin "type.__call__" ⟨.ref C :: rest, kw⟩)) (.call (.ref fI) ⟨.ref (s.heap.objs.size + 1) :: rest, kw⟩) (InitBack (s.heap.objs.size + 1) R)
      { s with heap := (s.heap.push emptyDict).push (instObj C s.heap.objs.size) }) : codeAny (model prog w) A (.call (.ref C) ⟨rest, kw⟩) R s := by
  obtain ⟨hh, g, d, t, os⟩ := s
  exact make_core (makes_of X hm) (looks_findIn X hi) (fun self => bind_fn X self (beq_iff_eq.mp hf)) (.inl rfl) h
theorem get_field {x C : Addr} {ox : Obj} {es : List DictEntry} {n : Nat} {name : Str} {expr : Bool} {v : Value} {Q : Value → Shared → Prop}
    (X : K.In s.heap) (I : PySem.W.InstAt s.heap x ox C (some (dictOf es n))) (hg : plainGet K C name = true) (hh : hasDictIn K C = true) (ha : findIn K (.ref C) name = some none)
    (hl : getL name es = some (some v)) (hv : handedIn v = true) (h : Q v { s with toks := s.toks + 1 }) : wpAny (model prog w) A (getAttr (.ref x) name expr) Q E s :=
  get_value X I (plainGet_of hg).1 (findObj_own hh ha rfl hl) hv h
theorem get_method {x C f : Addr} {ox : Obj} {es : List DictEntry} {n : Nat} {name : Str} {pl : Sem Bool} {Q : Value × List Value → Shared → Prop}
    (X : K.In s.heap) (I : PySem.W.InstAt s.heap x ox C (some (dictOf es n))) (hg : plainGet K C name = true) (hf : findIn K (.ref C) name = some (some (.ref f))) (ht : isFn K (.ref f) = true)
    (hl : getL name es = some none) (h : Q (.ref f, [.ref x]) s) : wpAny (model prog w) A (getMethod (.ref x) name pl) Q E s :=
  method_fn X I (plainGet_of hg).1 (plainGet_of hg).2 hf (beq_iff_eq.mp ht) (by show (lookIn name (dictOf es n)).map _ = _; rw [lookIn_dict, hl]; rfl) h
def noObjs (h : Heap) : Heap := { h with objs := #[] }
theorem noObjs_get (h : Heap) (b : Addr) : (noObjs h).get? b = none := by
  cases e : (noObjs h).get? b with
  | none => rfl
  | some o => exact absurd (Heap.lt_size e) (Nat.not_lt_zero _)
def ledger (h : Heap) (L d : Addr) : List (Addr × Obj) := (List.range h.objs.size).filterMap fun a => if a = L ∨ a = d then none else (h.get? a).map fun o => (a, o)
theorem mem_ledger {h : Heap} {L d a : Addr} {o : Obj} : (a, o) ∈ ledger h L d ↔ a ≠ L ∧ a ≠ d ∧ h.get? a = some o := by
  unfold ledger
  rw [List.mem_filterMap]
  constructor
  · rintro ⟨b, _, e⟩
    split at e
    · cases e
    · rename_i hb
      obtain ⟨o', ho, e'⟩ := Option.map_eq_some_iff.mp e
      cases e'
      exact ⟨fun q => hb (.inl q), fun q => hb (.inr q), ho⟩
  · rintro ⟨n1, n2, ho⟩
    refine ⟨a, List.mem_range.mpr (Heap.lt_size ho), ?_⟩
    rw [if_neg (show ¬ (a = L ∨ a = d) from fun q => q.elim n1 n2), ho] <;> rfl
theorem news_ledger {h : Heap} {L d : Addr} {od : Obj} (hne : d ≠ L) (ho : h.get? d = some od) : News (noObjs h) L h ([] ++ (d, od) :: ledger h L d) := by
  rintro ⟨a, o⟩ hp
  rcases List.mem_cons.mp hp with e | hp
  · cases e
    exact ⟨ho, hne, noObjs_get _ _⟩
  · obtain ⟨n1, n2, e⟩ := mem_ledger.mp hp
    exact ⟨e, n1, noObjs_get _ _⟩
theorem fr_all {h : Heap} {L : Addr} {m : Str → Option Value} (n : h.Ns L m) : Fr (noObjs h) L h m :=
  ⟨n, fun b o e => (by rw [noObjs_get] at e; cases e), Nat.zero_le _⟩
theorem upd_ledger {h : Heap} {L d : Addr} {o o' : Obj} : Upd d o o' ((d, o) :: ledger h L d) ((d, o') :: ledger h L d) :=
  .head fun ⟨_, _⟩ hp => (mem_ledger.mp hp).2.1
theorem set_field {x C dx L : Addr} {ox : Obj} {m : Str → Option Value} {es es' : List DictEntry} {n n' : Nat} {name : Str} {v : Value} {Q : Unit → Shared → Prop}
    (X : K.In s.heap) (I : PySem.W.InstAt s.heap x ox C (some (dictOf es n))) (hd : ox.dict = some dx) (hL : s.heap.Ns L m) (hne : dx ≠ L)
    (hs : findIn K (.ref C) "__setattr__" = some (some (.builtin "object.__setattr__"))) (hp : plainOver K C = true) (ht : takerIn K C name = some none) (hh : hasDictIn K C = true) (hl : (getL name es).isSome = true)
    (e : (putL name (PyData.keyHash w.params name) (.str name (s.toks + 1)) v es, putN name es n) = (es', n')) (hz : es'.length ≤ 1000)
    (h : ∀ h' : Heap, h'.Ns L m → h'.get? dx = some (dictOf es' n') → (∀ b o, b ≠ dx → b ≠ L → s.heap.get? b = some o → h'.get? b = some o) → Q () { s with heap := h', toks := s.toks + 2 }) :
    wpAny (model prog w) A (setAttr (.ref x) name v) Q E s := by
  obtain ⟨e1, e2⟩ := Prod.mk.inj e
  have hdx : s.heap.get? dx = some (dictOf es n) := by
    have := I.dict
    rw [hd] at this
    exact this
  refine set_plain X I hs (osa_dict (s := { s with toks := s.toks + 1 }) (h₀ := noObjs s.heap) (L := L) (m := m) (od := dictOf es n) (od' := dictOf es' n') (es := es') (n := n') (pre := []) (post := ledger s.heap L dx)
    (fr_all hL) (news_ledger hne hdx) X I hd hp ht hh hl (fun _ q => nomatch q) (fun ⟨_, _⟩ q => (mem_ledger.mp q).2.1) (by rw [putName_dict, e1, e2]) rfl hz fun h' F' N' => ?_)
  exact h h' F'.ns (N'.get (List.Mem.head _)) fun b o n1 n2 ho => N'.get (List.Mem.tail _ (mem_ledger.mpr ⟨n2, n1, ho⟩))
end
end Att
namespace L2
open PySem PySem.Spec PyProof.Rows
theorem vals_ints : ∀ {vs : List Value} {ns : List Int}, IntsAre vs ns → Vals (ns.map V.int) vs
  | _, _, .nil => .nil
  | _, _, .cons n t h => .cons ⟨t, rfl⟩ (vals_ints h)
def Only (H : Hp) : Prop := ∀ b, H b = none ∨ ∃ o xs, H b = some (.frz o (.lst xs))
theorem law_call {P : Program} {w : World} {K : PySem.W.Frag} {mg mb : Str → Option Value} {CX : CXT} {k : Nat} {fa a : Addr} {fd : FuncData} {x : Str} {sp : Sp} {s₁ : Shared} {vs : List Value} {ns : List Int}
    (KX : K.In s₁.heap) (hns : s₁.heap.Ns mainGlobals mg) (hb : s₁.heap.Ns builtinsNs mb) (hbb : ∀ x : Str, x ≠ "__name__" → mb x = bootBuiltins x) (hlim : s₁.heap.NoLimit) (hg : s₁.gens = #[])
    (ha : s₁.heap.get? a = some { cls := .type "list", data := .seq vs.toArray }) (hi : IntsAre vs ns) (hl : ns.length ≤ sizeLine) (hr : Room k callerA)
    (F : ∀ base : Heap, K.In base → base.Ns mainGlobals mg → FnOk P w K mg base CX k fa fd [x] sp) (hbind : ∀ (s : Shared) (u : Value), BindsTo s fd ⟨[u], []⟩ [(x, u)])
    (hsp : ∀ H : Hp, Only H → SqL K H a (ns.map V.int) → sp [.ref a] H (fun v _ => v = .bl true) fun _ _ _ => False)
    (hCX : ∀ H e s', CX [] H s₁ (fun _ _ _ => False) e s' → False) :
    codeAny (model P w) callerA (.call (.ref fa) ⟨[.ref a], []⟩) (fun r s' => r = .ok (.ret (.bool true)) ∧ OldK s₁.heap s'.heap ∧ s'.os = s₁.os ∧ AllBare s'.gens) s₁ := by
  have rv := vals_ints hi
  have lenV := hi.length
  have core : ∀ H : Hp, Only H → SqL K H a (ns.map V.int) → HOk P w H s₁.heap → (∀ b, H b ≠ none → b = a) → (H a ≠ none → K.lookup a = none) →
      codeAny (model P w) callerA (.call (.ref fa) ⟨[.ref a], []⟩) (fun r s' => r = .ok (.ret (.bool true)) ∧ OldK s₁.heap s'.heap ∧ s'.os = s₁.os ∧ AllBare s'.gens) s₁ := by
    intro H hO hS hok hA hK
    have base_of : ∀ {b : Addr} {o : Obj}, s₁.heap.get? b = some o → H b = none → (hidT s₁.heap H).get? b = some o := fun e n => hidT_get e n
    have noA : ∀ {b : Addr} {o : Obj} {es : Array DictEntry} {ep : Nat}, s₁.heap.get? b = some o → o.data = .dict es ep → H b = none := fun {b o es ep} e d => by
      cases q : H b with
      | none => rfl
      | some u =>
        have e' : b = a := hA b (by rw [q]; simp)
        subst e'
        rw [ha] at e; cases e
        have d' : Data.seq vs.toArray _ = Data.dict es ep := d
        cases d'
    have nsK : ∀ {b : Addr} {m : Str → Option Value}, s₁.heap.Ns b m → (hidT s₁.heap H).Ns b m := fun {b m} ⟨o, es, ep, e, d, r⟩ => ⟨o, es, ep, base_of e (noA e d), d, r⟩
    have hKb : K.In (hidT s₁.heap H) := fun b o e => base_of (KX b o e) (by
      cases q : H b with
      | none => rfl
      | some u =>
        have e' : b = a := hA b (by rw [q]; simp)
        subst e'
        rw [hK (by rw [q]; simp)] at e; cases e)
    have hM : Mod K mg (hidT s₁.heap H) := ⟨hKb, nsK hns, ⟨mb, nsK hb, hbb⟩, let ⟨mc, h1, h2⟩ := hlim; ⟨mc, nsK h1, h2⟩⟩
    have e0 : Env0 P w K mg (hidT s₁.heap H) callerA [] s₁ H := ⟨rfl, hM, fun b o e => of_hidT e, Nat.le_of_eq (hidT_size _ _), trivial, fun b hb => absurd (show b ∈ ([] : List Addr) from hb) (by simp), hok, .of_eq hg⟩
    refine codeAny_mono ((F _ hKb (nsK hns)).run callerA [] s₁ H ⟨[.ref a], []⟩ [.ref a] [.ref a] _ _ hr e0 (hbind s₁ (.ref a)) (.cons rfl .nil) (hsp H hO hS)) fun r s' h => ?_
    cases r with
    | error e => exact (hCX H e s' h).elim
    | ok fl =>
      cases fl with
      | next => exact False.elim h
      | brk => exact False.elim h
      | cont => exact False.elim h
      | ret u =>
        obtain ⟨v, H', os, bare, un, hok', r', q⟩ := h
        have q' : v = .bl true := q
        subst q'
        obtain rfl : u = Value.bool true := r'
        refine ⟨rfl, OldK.of_keep fun b o e => ?_, os, bare⟩
        cases q : H b with
        | none => exact un.keep b o e q (by intro z; exact absurd (show b ∈ ([] : List Addr) from z) (by simp)) (by simp)
        | some u =>
          rcases hO b with z | ⟨ob, xs, z⟩
          · rw [q] at z; cases z
          · have z2 := un.frzs b ob _ z
            obtain ⟨e1, _⟩ := hok b _ z
            obtain ⟨e2, _⟩ := hok' b _ z2
            rw [e] at e1; cases e1
            exact e2
  cases hk : K.lookup a with
  | some o =>
    have e := KX a o hk
    rw [ha] at e
    cases e
    refine core (fun _ => none) (fun _ => .inl rfl) (.inr ⟨_, vs.toArray, _, hk, rfl, rfl, rfl, by rw [List.size_toArray, lenV]; exact hl, by simpa using rv⟩) (fun b u z => by have z' : (none : Option HO) = some u := z; cases z') (fun b z => absurd rfl z) fun z => absurd rfl z
  | none =>
    refine core (fun b => if b = a then some (.frz { cls := .type "list", data := .seq vs.toArray } (.lst (ns.map V.int))) else none) (fun b => ?_) (.inl (.inr ⟨{ cls := .type "list", data := .seq vs.toArray }, if_pos rfl⟩)) (fun b u z => ?_) (fun b z => ?_) fun _ => hk
    · by_cases hb : b = a
      · exact .inr ⟨_, _, if_pos hb⟩
      · exact .inl (if_neg hb)
    · by_cases hb : b = a
      · have z' := (if_pos hb).symm.trans z
        cases z'
        subst hb
        exact ⟨ha, by rw [List.length_map]; exact hl, vs, _, rv, ha⟩
      · have z' := (if_neg hb).symm.trans z
        cases z'
    · by_cases hb : b = a
      · exact hb
      · exact absurd (if_neg hb) z
end L2
namespace L2
open PySem PySem.Spec PyProof.Rows
abbrev KOf {K : PySem.W.Frag} {h : Heap} (_ : K.In h) : PySem.W.Frag := K
theorem walk_of {l : PySem.W.OpenLaw} {n k : Nat} {q : Program} {loose : List Str} {XP : (Str → Option Value) → Heap → Prop} {YP : World → Heap → Prop} {d : DefRec} {K : Params → PySem.W.Frag} {CX : World → CXT} {sp : World → Sp} {x : Str}
    (hn : l.most = some n) (hn2 : n ≤ sizeLine) (hdf : d.params.defaults = []) (hr : Room k callerA)
    (hY : ∀ (w : World) (h : Heap), YP w h → (K w.params).In h)
    (F : ∀ (w : World) (mg : Str → Option Value) (fa : Addr) (h : Heap), (K w.params).In h → h.Ns mainGlobals mg → mg d.name = some (.ref fa) →
      ∃ fd : FuncData, (∀ (s : Shared) (u : Value), BindsTo s fd ⟨[u], []⟩ [(x, u)]) ∧
        ∀ base : Heap, (K w.params).In base → base.Ns mainGlobals mg → FnOk l.prog w (K w.params) mg base (CX w) k fa fd [x] (sp w))
    (hsp : ∀ (w : World) (H : Hp) (a : Addr) (ns : List Int), ns.length ≤ n → Only H → SqL (K w.params) H a (ns.map V.int) → sp w [.ref a] H (fun v _ => v = .bl true) fun _ _ _ => False)
    (hCX : ∀ (w : World) (H : Hp) (s : Shared) (e : Value) (s' : Shared), CX w [] H s (fun _ _ _ => False) e s' → False) :
    PySem.W.WalkO q loose XP YP l.row.toRowW d [] (fun f vs => PySem.call f vs) := by
  refine Att.attach_call hn hdf fun w s₀ s₁ mg mb fa o pm cd doc a vs ns G Y ho hd hcd hmg hobj hints hlen hg => ?_
  have KX := hY w _ Y
  obtain ⟨fd, hb, hF⟩ := F w mg fa _ KX G.T.g hmg
  exact law_call KX G.T.g G.T.b G.T.builtins G.T.nolimit hg hobj hints (Nat.le_trans hlen hn2) hr hF hb (fun H hO hS => hsp w H a ns hlen hO hS) fun H e s' => hCX w H s₁ e s'
theorem walk_ofK {l : PySem.W.OpenLaw} {n k : Nat} {q : Program} {loose : List Str} {XP : (Str → Option Value) → Heap → Prop} {YP : World → Heap → Prop} {d : DefRec} {K : Params → PySem.W.Frag} {CX : CXT} {sp : PySem.W.Frag → Sp} {x : Str}
    (hn : l.most = some n) (hn2 : n ≤ sizeLine) (hdf : d.params.defaults = []) (hr : Room k callerA)
    (hY : ∀ (w : World) (h : Heap), YP w h → (K w.params).In h)
    (F : ∀ (w : World) (mg : Str → Option Value) (fa : Addr) (h : Heap), (K w.params).In h → h.Ns mainGlobals mg → mg d.name = some (.ref fa) →
      ∃ fd : FuncData, (∀ (s : Shared) (u : Value), BindsTo s fd ⟨[u], []⟩ [(x, u)]) ∧
        ∀ base : Heap, (K w.params).In base → base.Ns mainGlobals mg → FnOk l.prog w (K w.params) mg base CX k fa fd [x] (sp (K w.params)))
    (hsp : ∀ (K : PySem.W.Frag) (H : Hp) (a : Addr) (ns : List Int), ns.length ≤ n → Only H → SqL K H a (ns.map V.int) → sp K [.ref a] H (fun v _ => v = .bl true) fun _ _ _ => False)
    (hCX : ∀ (H : Hp) (s : Shared) (e : Value) (s' : Shared), CX [] H s (fun _ _ _ => False) e s' → False) :
    PySem.W.WalkO q loose XP YP l.row.toRowW d [] (fun f vs => PySem.call f vs) :=
  walk_of (K := K) (CX := fun _ => CX) (sp := fun w => sp (K w.params)) hn hn2 hdf hr hY F (fun w H a ns h1 h2 h3 => hsp (K w.params) H a ns h1 h2 h3) fun _ H s e s' => hCX H s e s'
end L2
namespace L2
open PySem PySem.Spec PyProof.Rows
def inClass (s : Stmt) (j : Nat) : Stmt := match s with
  | .ClassDef _ _ _ body _ _ _ _ _ _ _ => body.getD j (.Pass ⟨0, 0, 0, 0⟩)
  | _ => .Pass ⟨0, 0, 0, 0⟩
def defArgs (s : Stmt) : Arguments := match s with
  | .FunctionDef _ a _ _ _ _ _ _ _ _ => a
  | _ => { posonlyargs := [], args := [], vararg := none, kwonlyargs := [], kw_defaults := [], kwarg := none, defaults := [] }
def defBody (s : Stmt) : List Stmt := match s with
  | .FunctionDef _ _ b _ _ _ _ _ _ _ => b
  | _ => []
def defScope (s : Stmt) : Scope := match s with
  | .FunctionDef _ _ _ _ _ _ sc _ _ _ => sc
  | _ => { kind := .function, names := [], isGenerator := false, isCoroutine := false }
abbrev CX0 : CXT := fun _ _ _ _ _ _ => False
abbrev E0 : XK := fun _ _ _ => False
theorem pass0 {X : Cx} : Passes CX0 X E0 := fun _ _ _ _ _ _ _ h => h.elim
structure Fun (K : PySem.W.Frag) (x qual : Str) (st : Stmt) (f : Addr) (fd : FuncData) : Prop where
  ex : ∃ (oc : Value) (od : Option Addr) (kV doc pm : Value) (an : Option Addr) (cdv ct : Value) (osl : Array (Option Value)),
    fd = PySem.W.fnOf x qual (defArgs st) (defBody st) (defScope st) .none kV doc pm an cdv ct ∧ K.lookup f = some ⟨oc, od, .func fd, osl⟩ ∧ PySem.W.codeIn K cdv qual = true
  kp : PySem.W.keepIn K (.ref f) = true
section
variable {P : Program} {w : World} {K : PySem.W.Frag} {mg : Str → Option Value} {base : Heap}
theorem Fun.ok {x qual : Str} {st : Stmt} {f : Addr} {fd : FuncData} {N ps : List Str} {k : Nat} {sp : Sp} (F : Fun K x qual st f fd) (S : FnScope N ps (defScope st)) (len : ∀ vs H Q E, sp vs H Q E → vs.length = ps.length)
    (hbody : ∀ (cdv : Value) (A : Around) (outer : List Env) (s : Shared) (H : Hp) (vs : List V) (Q : VK) (E : XK), Room k (A.deeper (envOfC qual (defScope st) s.heap.objs.size f cdv)) → sp vs H Q E →
      ∃ t, PSs (cxOf CX0 P w K mg base N qual (defScope st) f cdv A outer s H E).nox (defBody st) t ∧ t { nx := fun _ H' => Q .non H', rt := Q } (start N vs) H) : FnOk P w K mg base CX0 (k + 1) f fd ps sp := by
  obtain ⟨oc, od, kV, doc, pm, an, cdv, ct, osl, rfl, lk, hcd⟩ := F.ex
  refine fn_of lk hcd S len fun A outer s H vs Q E hr hsp => ?_
  obtain ⟨t, h, q⟩ := hbody cdv A outer s H vs Q E hr hsp
  exact ⟨t, h.nox, q⟩
theorem Fun.binds {x qual : Str} {st : Stmt} {f : Addr} {fd : FuncData} {ps : List Str} (F : Fun K x qual st f fd)
    (h : ∀ (kV doc pm : Value) (an : Option Addr) (cdv ct : Value) (us : List Value), us.length = ps.length → bindArgs (PySem.W.fnOf x qual (defArgs st) (defBody st) (defScope st) .none kV doc pm an cdv ct) ⟨us, []⟩ = pure (ps.zip us)) : Binds K fd ps [] := by
  obtain ⟨oc, od, kV, doc, pm, an, cdv, ct, osl, rfl, lk, hcd⟩ := F.ex
  exact .all (h kV doc pm an cdv ct)
theorem fun_mk {x qual : Str} {st : Stmt} {f : Addr} {oc : Value} {od an : Option Addr} {osl : Array (Option Value)} {kV doc pm cdv ct : Value} (l : K.lookup f = some ⟨oc, od, .func (PySem.W.fnOf x qual (defArgs st) (defBody st) (defScope st) .none kV doc pm an cdv ct), osl⟩)
    (c : PySem.W.codeIn K cdv qual = true) (k : PySem.W.keepIn K (.ref f) = true) : Fun K x qual st f (PySem.W.fnOf x qual (defArgs st) (defBody st) (defScope st) .none kV doc pm an cdv ct) := ⟨⟨oc, od, kV, doc, pm, an, cdv, ct, osl, rfl, l, c⟩, k⟩
end
theorem hu_of {A : Around} {k : Nat} (hr : Room k A) : A.units + 1 < cLine := Nat.lt_of_le_of_lt (Nat.add_le_add_left (by decide : 1 ≤ 64) _) hr.units
theorem small1000 {n : Nat} (h : n ≤ 1000) : n < sizeLine := Nat.lt_of_le_of_lt h (by decide)
section
variable {X : Cx}
theorem pv (i : Nat) {x : Str} {pos : Pos} (hN : X.N[i]? = some x := by rfl) (hv : Vis X.env.scope x := by first | exact Or.inl rfl | exact Or.inr (Or.inl rfl) | exact Or.inr (Or.inr rfl)) (hd : (x == ("__debug__" : Str)) = false := by decide)
    (hcd : (x == ("__classdict__" : Str)) = false := by decide) : PE X (.Name x pos) (tVar i) := pe_var hN hv hd hcd
end
theorem iteF {A B : Prop} (h : B) : if false = true then A else B := by
  rw [if_neg Bool.false_ne_true]
  exact h
theorem iteT {A B : Prop} (h : A) : if true = true then A else B := by
  rw [if_pos rfl]
  exact h
theorem ite2 {c A B : Prop} [Decidable c] (h1 : c → A) (h2 : ¬ c → B) : if c then A else B := by
  by_cases h : c
  · rw [if_pos h]
    exact h1 h
  · rw [if_neg h]
    exact h2 h
theorem iteNS {c A B : Prop} [Decidable c] (hc : c) (h : B) : if (!decide c) = true then A else B := by
  rw [decide_eq_true hc]
  exact iteF h
def Same (H H' : Hp) : Prop := ∀ b o, H b = some o → H' b = some o
theorem Same.refl (H : Hp) : Same H H := fun _ _ h => h
theorem Same.trans {H H1 H2 : Hp} (a : Same H H1) (b : Same H1 H2) : Same H H2 := fun c o h => b c o (a c o h)
theorem Same.free {H H' : Hp} (e : Same H H') {l : Addr} (h : H' l = Option.none) : H l = Option.none := by
  cases q : H l with
  | none => rfl
  | some o =>
    rw [e l o q] at h
    cases h
theorem Same.seq {K : PySem.W.Frag} {H H' : Hp} {a : Addr} {xs : List V} (e : Same H H') (h : SqL K H a xs) : SqL K H' a xs := by
  rcases h with (h | ⟨o, h⟩) | h
  · exact .inl (.inl (e _ _ h))
  · exact .inl (.inr ⟨o, e _ _ h⟩)
  · exact .inr h
end L2

namespace Cart
inductive BT where
  | nil
  | node (l r : BT)
deriving DecidableEq
def BT.size : BT → Nat
  | .nil => 0
  | .node l r => l.size + r.size + 1
def BT.list : BT → Nat → Option Nat → List (Option Nat)
  | .nil, _, _ => []
  | .node l r, o, top => l.list o (some (o + l.size)) ++ top :: r.list (o + l.size + 1) (some (o + l.size))
theorem list_len : ∀ (t : BT) (o : Nat) (top : Option Nat), (t.list o top).length = t.size
  | .nil, _, _ => rfl
  | .node l r, o, top => by
    show (l.list o (some (o + l.size)) ++ top :: r.list (o + l.size + 1) (some (o + l.size))).length = l.size + r.size + 1
    rw [List.length_append, List.length_cons, list_len l, list_len r]
    omega
theorem list_mem : ∀ (t : BT) (o : Nat) (top x : Option Nat), x ∈ t.list o top → x = top ∨ ∃ q, x = some q ∧ o ≤ q ∧ q < o + t.size
  | .nil, _, _, _, h => by cases h
  | .node l r, o, top, x, h => by
    have hs : (BT.node l r).size = l.size + r.size + 1 := rfl
    rcases List.mem_append.mp h with h | h
    · rcases list_mem l _ _ _ h with h | ⟨q, h, h1, h2⟩
      · exact .inr ⟨_, h, by omega, by omega⟩
      · exact .inr ⟨q, h, by omega, by omega⟩
    · rcases List.mem_cons.mp h with h | h
      · exact .inl h
      · rcases list_mem r _ _ _ h with h | ⟨q, h, h1, h2⟩
        · exact .inr ⟨_, h, by omega, by omega⟩
        · exact .inr ⟨q, h, by omega, by omega⟩
def Out (o n : Nat) (top : Option Nat) : Prop := ∀ q, top = some q → q < o ∨ o + n ≤ q
theorem Out.none {o n : Nat} : Out o n none := fun q h => by cases h
theorem list_root (l r : BT) (o : Nat) (top : Option Nat) : ((BT.node l r).list o top)[l.size]? = some top := by
  show (l.list o (some (o + l.size)) ++ top :: r.list (o + l.size + 1) (some (o + l.size)))[l.size]? = _
  rw [List.getElem?_append_right (by rw [list_len]; exact Nat.le_refl _), list_len, Nat.sub_self]
  rfl
theorem list_left (l r : BT) (o : Nat) (top : Option Nat) {i : Nat} (h : i < l.size) : ((BT.node l r).list o top)[i]? = (l.list o (some (o + l.size)))[i]? := by
  show (l.list o (some (o + l.size)) ++ top :: r.list (o + l.size + 1) (some (o + l.size)))[i]? = _
  rw [List.getElem?_append_left (by rw [list_len]; exact h)]
theorem list_right (l r : BT) (o : Nat) (top : Option Nat) (i : Nat) : ((BT.node l r).list o top)[l.size + 1 + i]? = (r.list (o + l.size + 1) (some (o + l.size)))[i]? := by
  show (l.list o (some (o + l.size)) ++ top :: r.list (o + l.size + 1) (some (o + l.size)))[l.size + 1 + i]? = _
  rw [List.getElem?_append_right (by rw [list_len]; omega), list_len]
  have e : l.size + 1 + i - l.size = i + 1 := by omega
  rw [e]
  rfl
theorem list_not_root (l r : BT) (o : Nat) (top : Option Nat) (hO : Out o (BT.node l r).size top) {i : Nat} (hi : i < l.size + r.size + 1) (hne : i ≠ l.size) : ((BT.node l r).list o top)[i]? ≠ some top := by
  intro h
  have hs : (BT.node l r).size = l.size + r.size + 1 := rfl
  rcases Nat.lt_or_ge i l.size with h1 | h1
  · rw [list_left l r o top h1] at h
    rcases list_mem _ _ _ _ (List.mem_of_getElem? h) with e | ⟨q, e, h2, h3⟩
    · rcases hO _ e with z | z <;> omega
    · rcases hO _ e with z | z <;> omega
  · have e : i = l.size + 1 + (i - l.size - 1) := by omega
    rw [e, list_right] at h
    rcases list_mem _ _ _ _ (List.mem_of_getElem? h) with e | ⟨q, e, h2, h3⟩
    · rcases hO _ e with z | z <;> omega
    · rcases hO _ e with z | z <;> omega
theorem list_inj : ∀ (t t' : BT) (o : Nat) (top : Option Nat), Out o t.size top → t.list o top = t'.list o top → t = t'
  | .nil, .nil, _, _, _, _ => rfl
  | .nil, .node l r, o, top, _, h => by
    have := congrArg List.length h
    rw [list_len, list_len] at this
    simp [BT.size] at this
  | .node l r, .nil, o, top, _, h => by
    have := congrArg List.length h
    rw [list_len, list_len] at this
    simp [BT.size] at this
  | .node l r, .node l' r', o, top, hO, h => by
    have hl := congrArg List.length h
    rw [list_len, list_len] at hl
    have hs : (BT.node l r).size = l.size + r.size + 1 := rfl
    have hs' : (BT.node l' r').size = l'.size + r'.size + 1 := rfl
    have hO' : Out o (BT.node l' r').size top := by rw [← hl]; exact hO
    have e : l.size = l'.size := by
      by_cases e : l.size = l'.size
      · exact e
      · exact absurd (by rw [← h]; exact list_root l r o top) (list_not_root l' r' o top hO' (by omega) e)
    have h' : l.list o (some (o + l.size)) ++ top :: r.list (o + l.size + 1) (some (o + l.size)) = l'.list o (some (o + l'.size)) ++ top :: r'.list (o + l'.size + 1) (some (o + l'.size)) := h
    rw [← e] at h'
    obtain ⟨h1, h2⟩ := List.append_inj h' (by rw [list_len, list_len]; exact e)
    have h3 := (List.cons.inj h2).2
    have e1 := list_inj l l' o _ (fun q z => by cases z; right; omega) h1
    have e2 := list_inj r r' (o + l.size + 1) _ (fun q z => by cases z; left; omega) h3
    rw [e1, e2]
def Fits (g : Nat → Int) : Nat → BT → Prop
  | _, .nil => True
  | f, .node l r => (∀ j, f ≤ j → j < f + l.size → g (f + l.size) < g j) ∧ (∀ j, f + l.size < j → j ≤ f + l.size + r.size → g (f + l.size) ≤ g j) ∧ Fits g f l ∧ Fits g (f + l.size + 1) r
theorem Fits.one {g : Nat → Int} : ∀ (t t' : BT) (f : Nat), Fits g f t → Fits g f t' → t.size = t'.size → t = t'
  | .nil, .nil, _, _, _, _ => rfl
  | .nil, .node _ _, _, _, _, h => by simp [BT.size] at h
  | .node _ _, .nil, _, _, _, h => by simp [BT.size] at h
  | .node l r, .node l' r', f, a, b, h => by
    obtain ⟨a1, a2, a3, a4⟩ := a
    obtain ⟨b1, b2, b3, b4⟩ := b
    have hs : l.size + r.size + 1 = l'.size + r'.size + 1 := h
    have e : l.size = l'.size := by
      rcases Nat.lt_trichotomy l.size l'.size with z | z | z
      · have := b1 (f + l.size) (by omega) (by omega)
        have := a2 (f + l'.size) (by omega) (by omega)
        omega
      · exact z
      · have := a1 (f + l'.size) (by omega) (by omega)
        have := b2 (f + l.size) (by omega) (by omega)
        omega
    rw [← e] at b4
    rw [Fits.one l l' f a3 b3 e, Fits.one r r' (f + l.size + 1) a4 b4 (by omega)]
theorem Fits.mono {g g' : Nat → Int} : ∀ (t : BT) (f : Nat), (∀ i j, f ≤ i → i < f + t.size → f ≤ j → j < f + t.size → (g i < g j → g' i < g' j) ∧ (g i ≤ g j → g' i ≤ g' j)) → Fits g f t → Fits g' f t
  | .nil, _, _, _ => trivial
  | .node l r, f, h, ⟨a1, a2, a3, a4⟩ => by
    have hs : (BT.node l r).size = l.size + r.size + 1 := rfl
    refine ⟨fun j h1 h2 => (h _ _ (by omega) (by omega) (by omega) (by omega)).1 (a1 j h1 h2), fun j h1 h2 => (h _ _ (by omega) (by omega) (by omega) (by omega)).2 (a2 j h1 h2), ?_, ?_⟩
    · exact Fits.mono l f (fun i j h1 h2 h3 h4 => h i j (by omega) (by omega) (by omega) (by omega)) a3
    · exact Fits.mono r _ (fun i j h1 h2 h3 h4 => h i j (by omega) (by omega) (by omega) (by omega)) a4
theorem Fits.shift {g g' : Nat → Int} (d : Nat) : ∀ (t : BT) (f : Nat), (∀ i, f ≤ i → i < f + t.size → g' (d + i) = g i) → Fits g f t → Fits g' (d + f) t
  | .nil, _, _, _ => trivial
  | .node l r, f, h, ⟨a1, a2, a3, a4⟩ => by
    have hs : (BT.node l r).size = l.size + r.size + 1 := rfl
    have e0 : g' (d + f + l.size) = g (f + l.size) := by rw [Nat.add_assoc]; exact h _ (by omega) (by omega)
    refine ⟨fun j h1 h2 => ?_, fun j h1 h2 => ?_, ?_, ?_⟩
    · have e : j = d + (j - d) := by omega
      rw [e0, e, h (j - d) (by omega) (by omega)]
      exact a1 _ (by omega) (by omega)
    · have e : j = d + (j - d) := by omega
      rw [e0, e, h (j - d) (by omega) (by omega)]
      exact a2 _ (by omega) (by omega)
    · exact Fits.shift d l f (fun i h1 h2 => h i (by omega) (by omega)) a3
    · have e : d + f + l.size + 1 = d + (f + l.size + 1) := by omega
      rw [e]
      exact Fits.shift d r _ (fun i h1 h2 => h i (by omega) (by omega)) a4
def hd (g : Nat → Int) (f : Nat) : Nat → Nat
  | 0 => f
  | n + 1 => if g (f + n) < g (hd g f n) then f + n else hd g f n
structure Head (g : Nat → Int) (f n h : Nat) : Prop where
  lo : f ≤ h
  hi : h < f + n
  lt : ∀ j, f ≤ j → j < h → g h < g j
  le : ∀ j, h < j → j < f + n → g h ≤ g j
theorem hd_head (g : Nat → Int) (f : Nat) : ∀ n, Head g f (n + 1) (hd g f (n + 1))
  | 0 => by
    have e : hd g f 1 = f := by
      show (if g (f + 0) < g f then f + 0 else f) = f
      split <;> omega
    rw [e]
    exact ⟨Nat.le_refl _, by omega, fun j h1 h2 => by omega, fun j h1 h2 => by omega⟩
  | n + 1 => by
    have ih := hd_head g f n
    have e : hd g f (n + 1 + 1) = if g (f + (n + 1)) < g (hd g f (n + 1)) then f + (n + 1) else hd g f (n + 1) := rfl
    rw [e]
    by_cases c : g (f + (n + 1)) < g (hd g f (n + 1))
    · rw [if_pos c]
      refine ⟨by omega, by omega, fun j h1 h2 => ?_, fun j h1 h2 => by omega⟩
      rcases Nat.lt_trichotomy j (hd g f (n + 1)) with z | z | z
      · have := ih.lt j h1 z; omega
      · rw [z]; exact c
      · have := ih.le j z (by omega); omega
    · rw [if_neg c]
      refine ⟨ih.lo, by have := ih.hi; omega, ih.lt, fun j h1 h2 => ?_⟩
      by_cases z : j = f + (n + 1)
      · subst z; omega
      · exact ih.le j h1 (by omega)
theorem Head.one {g : Nat → Int} {f n h h' : Nat} (a : Head g f n h) (b : Head g f n h') : h = h' := by
  rcases Nat.lt_trichotomy h h' with z | z | z
  · have := b.lt h a.lo z
    have := a.le h' z b.hi
    omega
  · exact z
  · have := a.lt h' b.lo z
    have := b.le h z a.hi
    omega
theorem fits_node {g : Nat → Int} {f h : Nat} {l r : BT} (H : Head g f (l.size + r.size + 1) h) (hl : h = f + l.size) (a : Fits g f l) (b : Fits g (h + 1) r) : Fits g f (.node l r) := by
  subst hl
  exact ⟨fun j h1 h2 => H.lt j h1 h2, fun j h1 h2 => H.le j h1 (by omega), a, b⟩
theorem Fits.head {g : Nat → Int} {f : Nat} {l r : BT} (a : Fits g f (.node l r)) : Head g f (l.size + r.size + 1) (f + l.size) :=
  ⟨by omega, by omega, fun j h1 h2 => a.1 j h1 h2, fun j h1 h2 => a.2.1 j h1 (by omega)⟩
theorem fits_ex (g : Nat → Int) : ∀ (n f : Nat), ∃ t : BT, t.size = n ∧ Fits g f t := by
  intro n
  induction n using Nat.strongRecOn with
  | ind n ih =>
    intro f
    cases n with
    | zero => exact ⟨.nil, rfl, trivial⟩
    | succ n =>
      have H := hd_head g f n
      have h1 := H.lo
      have h2 := H.hi
      obtain ⟨l, l1, l2⟩ := ih (hd g f (n + 1) - f) (by omega) f
      obtain ⟨r, r1, r2⟩ := ih (f + n - hd g f (n + 1)) (by omega) (hd g f (n + 1) + 1)
      refine ⟨.node l r, by show l.size + r.size + 1 = _; omega, fits_node (h := hd g f (n + 1)) ?_ (by omega) l2 r2⟩
      have e : l.size + r.size + 1 = n + 1 := by omega
      rw [e]
      exact H
noncomputable def tree (g : Nat → Int) (f n : Nat) : BT := (fits_ex g n f).choose
theorem tree_size (g : Nat → Int) (f n : Nat) : (tree g f n).size = n := (fits_ex g n f).choose_spec.1
theorem tree_fits (g : Nat → Int) (f n : Nat) : Fits g f (tree g f n) := (fits_ex g n f).choose_spec.2
theorem tree_eq {g : Nat → Int} {f n : Nat} {t : BT} (h : Fits g f t) (hs : t.size = n) : tree g f n = t := Fits.one _ _ f (tree_fits g f n) h (by rw [tree_size, hs])
theorem tree_zero (g : Nat → Int) (f : Nat) : tree g f 0 = .nil := tree_eq trivial rfl
theorem tree_node {g : Nat → Int} {f n h : Nat} (H : Head g f n h) : tree g f n = .node (tree g f (h - f)) (tree g (h + 1) (f + n - (h + 1))) := by
  have h1 := H.lo
  have h2 := H.hi
  refine tree_eq (fits_node (h := h) ?_ (by rw [tree_size]; omega) (tree_fits _ _ _) (tree_fits _ _ _)) ?_
  · rw [tree_size, tree_size]
    have e : h - f + (f + n - (h + 1)) + 1 = n := by omega
    rw [e]
    exact H
  · show (tree g f (h - f)).size + (tree g (h + 1) (f + n - (h + 1))).size + 1 = n
    rw [tree_size, tree_size]
    omega
noncomputable def trees (g : Nat → Int) (f n : Nat) (top : Option Nat) : List (Option Nat) := (tree g f n).list f top
theorem trees_len (g : Nat → Int) (f n : Nat) (top : Option Nat) : (trees g f n top).length = n := by
  unfold trees
  rw [list_len, tree_size]
theorem trees_zero (g : Nat → Int) (f : Nat) (top : Option Nat) : trees g f 0 top = [] := by
  unfold trees
  rw [tree_zero]
  rfl
theorem trees_node {g : Nat → Int} {f n h : Nat} (top : Option Nat) (H : Head g f n h) : trees g f n top = trees g f (h - f) (some h) ++ top :: trees g (h + 1) (f + n - (h + 1)) (some h) := by
  have h1 := H.lo
  unfold trees
  rw [tree_node H]
  have e : f + (tree g f (h - f)).size = h := by rw [tree_size]; omega
  show (tree g f (h - f)).list f (some (f + (tree g f (h - f)).size)) ++ top :: (tree g (h + 1) (f + n - (h + 1))).list (f + (tree g f (h - f)).size + 1) (some (f + (tree g f (h - f)).size)) = _
  rw [e]
end Cart

namespace Cart
theorem list_moved : ∀ (t : BT) (o by_ : Nat) (top top' : Option Nat), Out o t.size top →
    (t.list o top).map (fun x => if x = top then top' else x.map (· + by_)) = t.list (o + by_) top'
  | .nil, _, _, _, _, _ => rfl
  | .node l r, o, b, top, top', hO => by
    have hs : (BT.node l r).size = l.size + r.size + 1 := rfl
    show (l.list o (some (o + l.size)) ++ top :: r.list (o + l.size + 1) (some (o + l.size))).map _ = l.list (o + b) (some (o + b + l.size)) ++ top' :: r.list (o + b + l.size + 1) (some (o + b + l.size))
    have key : ∀ (s : BT) (p : Nat), o ≤ p → p + s.size ≤ o + (l.size + r.size + 1) → Out p s.size (some (o + l.size)) →
        (s.list p (some (o + l.size))).map (fun x => if x = top then top' else x.map (· + b)) = (s.list p (some (o + l.size))).map (fun x => if x = some (o + l.size) then some (o + l.size + b) else x.map (· + b)) := by
      intro s p h1 h2 _
      apply List.map_congr_left
      intro x hx
      rcases list_mem _ _ _ _ hx with e | ⟨q, e, z1, z2⟩
      · have : ¬ x = top := fun z => by rcases hO _ (z.symm.trans e) with y | y <;> omega
        rw [if_neg this, if_pos e, e]
        rfl
      · have : ¬ x = top := fun z => by rcases hO _ (z.symm.trans e) with y | y <;> omega
        rw [if_neg this]
        by_cases w : x = some (o + l.size)
        · rw [if_pos w, w]; rfl
        · rw [if_neg w]
    have o1 : Out o l.size (some (o + l.size)) := fun q z => by cases z; right; omega
    have o2 : Out (o + l.size + 1) r.size (some (o + l.size)) := fun q z => by cases z; left; omega
    rw [List.map_append, List.map_cons, if_pos rfl, key l o (by omega) (by omega) o1, key r (o + l.size + 1) (by omega) (by omega) o2]
    rw [list_moved l o b _ (some (o + l.size + b)) o1, list_moved r (o + l.size + 1) b _ (some (o + l.size + b)) o2]
    have e1 : o + l.size + b = o + b + l.size := by omega
    have e2 : o + l.size + 1 + b = o + b + l.size + 1 := by omega
    rw [e1, e2]
def BT.deep : BT → Nat → List Nat
  | .nil, _ => []
  | .node l r, d => l.deep (d + 1) ++ d :: r.deep (d + 1)
theorem deep_len : ∀ (t : BT) (d : Nat), (t.deep d).length = t.size
  | .nil, _ => rfl
  | .node l r, d => by
    show (l.deep (d + 1) ++ d :: r.deep (d + 1)).length = l.size + r.size + 1
    rw [List.length_append, List.length_cons, deep_len l, deep_len r]
    omega
theorem deep_ge : ∀ (t : BT) (d x : Nat), x ∈ t.deep d → d ≤ x ∧ x < d + t.size
  | .nil, _, _, h => by cases h
  | .node l r, d, x, h => by
    have hs : (BT.node l r).size = l.size + r.size + 1 := rfl
    rcases List.mem_append.mp h with h | h
    · have := deep_ge l _ _ h; omega
    · rcases List.mem_cons.mp h with h | h
      · omega
      · have := deep_ge r _ _ h; omega
theorem fits_deep : ∀ (t : BT) (g : Nat → Int) (f d : Nat), (∀ i, i < t.size → g (f + i) = ((t.deep d).getD i 0 : Nat)) → Fits g f t
  | .nil, _, _, _, _ => trivial
  | .node l r, g, f, d, h => by
    have hs : (BT.node l r).size = l.size + r.size + 1 := rfl
    have hd : (BT.node l r).deep d = l.deep (d + 1) ++ d :: r.deep (d + 1) := rfl
    have e0 : g (f + l.size) = (d : Nat) := by
      rw [h _ (by omega), hd, List.getD_eq_getElem?_getD, List.getElem?_append_right (by rw [deep_len]; exact Nat.le_refl _), deep_len, Nat.sub_self]
      rfl
    have eL : ∀ i, i < l.size → g (f + i) = ((l.deep (d + 1)).getD i 0 : Nat) := fun i hi => by
      rw [h _ (by omega), hd, List.getD_eq_getElem?_getD, List.getElem?_append_left (by rw [deep_len]; exact hi), ← List.getD_eq_getElem?_getD]
    have eR : ∀ i, i < r.size → g (f + l.size + 1 + i) = ((r.deep (d + 1)).getD i 0 : Nat) := fun i hi => by
      have e : f + l.size + 1 + i = f + (l.size + 1 + i) := by omega
      rw [e, h _ (by omega), hd, List.getD_eq_getElem?_getD, List.getElem?_append_right (by rw [deep_len]; omega), deep_len]
      have e : l.size + 1 + i - l.size = i + 1 := by omega
      rw [e, List.getElem?_cons_succ, ← List.getD_eq_getElem?_getD]
    have mem : ∀ (s : BT) (i : Nat), i < s.size → d + 1 ≤ (s.deep (d + 1)).getD i 0 := fun s i hi => by
      have hi' : i < (s.deep (d + 1)).length := by rw [deep_len]; exact hi
      rw [List.getD_eq_getElem?_getD, List.getElem?_eq_getElem hi']
      exact (deep_ge s _ _ (List.getElem_mem hi')).1
    refine ⟨fun j h1 h2 => ?_, fun j h1 h2 => ?_, fits_deep l g f (d + 1) eL, fits_deep r g _ (d + 1) eR⟩
    · have e : j = f + (j - f) := by omega
      rw [e0, e, eL _ (by omega)]
      have := mem l (j - f) (by omega)
      omega
    · have e : j = f + l.size + 1 + (j - (f + l.size + 1)) := by omega
      rw [e0, e, eR _ (by omega)]
      have := mem r (j - (f + l.size + 1)) (by omega)
      omega
theorem deep_up : ∀ (t : BT) (o : Nat) (top : Option Nat) (d i : Nat), i < t.size → (t.list o top)[i]? = some top ∧ (t.deep d).getD i 0 = d ∨
    ∃ q, (t.list o top)[i]? = some (some q) ∧ o ≤ q ∧ q < o + t.size ∧ (t.deep d).getD i 0 = (t.deep d).getD (q - o) 0 + 1
  | .nil, _, _, _, _, h => by cases h
  | .node l r, o, top, d, i, h => by
    have hs : (BT.node l r).size = l.size + r.size + 1 := rfl
    have hd : (BT.node l r).deep d = l.deep (d + 1) ++ d :: r.deep (d + 1) := rfl
    have dL : ∀ i, i < l.size → ((BT.node l r).deep d).getD i 0 = (l.deep (d + 1)).getD i 0 := fun i hi => by
      rw [hd, List.getD_eq_getElem?_getD, List.getElem?_append_left (by rw [deep_len]; exact hi), ← List.getD_eq_getElem?_getD]
    have d0 : ((BT.node l r).deep d).getD l.size 0 = d := by
      rw [hd, List.getD_eq_getElem?_getD, List.getElem?_append_right (by rw [deep_len]; exact Nat.le_refl _), deep_len, Nat.sub_self]
      rfl
    have dR : ∀ i, i < r.size → ((BT.node l r).deep d).getD (l.size + 1 + i) 0 = (r.deep (d + 1)).getD i 0 := fun i hi => by
      rw [hd, List.getD_eq_getElem?_getD, List.getElem?_append_right (by rw [deep_len]; omega), deep_len]
      have e : l.size + 1 + i - l.size = i + 1 := by omega
      rw [e, List.getElem?_cons_succ, ← List.getD_eq_getElem?_getD]
    rcases Nat.lt_trichotomy i l.size with z | z | z
    · right
      rw [list_left l r o top z]
      rcases deep_up l o (some (o + l.size)) (d + 1) i z with ⟨h1, h2⟩ | ⟨q, h1, h2, h3, h4⟩
      · refine ⟨o + l.size, h1, by omega, by omega, ?_⟩
        have e : o + l.size - o = l.size := by omega
        rw [dL i z, h2, e, d0]
      · refine ⟨q, h1, h2, by omega, ?_⟩
        rw [dL i z, h4, dL _ (by omega)]
    · left
      subst z
      exact ⟨list_root l r o top, d0⟩
    · right
      have e : i = l.size + 1 + (i - l.size - 1) := by omega
      rw [e, list_right]
      rcases deep_up r (o + l.size + 1) (some (o + l.size)) (d + 1) (i - l.size - 1) (by omega) with ⟨h1, h2⟩ | ⟨q, h1, h2, h3, h4⟩
      · refine ⟨o + l.size, h1, by omega, by omega, ?_⟩
        have e : o + l.size - o = l.size := by omega
        rw [dR _ (by omega), h2, e, d0]
      · refine ⟨q, h1, by omega, by omega, ?_⟩
        have e2 : q - o = l.size + 1 + (q - (o + l.size + 1)) := by omega
        rw [dR _ (by omega), h4, e2, dR _ (by omega)]
def cat : Nat → Nat
  | 0 => 1
  | n + 1 => ((List.range (n + 1)).attach.map fun ⟨j, h⟩ => have : j < n + 1 := List.mem_range.mp h; cat j * cat (n - j)).sum
theorem cat_succ (n : Nat) : cat (n + 1) = ((List.range (n + 1)).map fun j => cat j * cat (n - j)).sum := by
  rw [cat]
  have : ((List.range (n + 1)).attach.map fun (x : { x // x ∈ List.range (n + 1) }) => cat x.1 * cat (n - x.1)) = (List.range (n + 1)).map fun j => cat j * cat (n - j) := by
    have h := List.map_map (f := Subtype.val) (g := fun j => cat j * cat (n - j)) (l := (List.range (n + 1)).attach)
    rw [List.attach_map_subtype_val] at h
    exact h.symm
  exact congrArg List.sum this
def before (n j : Nat) : Nat := ((List.range j).map fun i => cat i * cat (n - i)).sum
theorem before_succ (n j : Nat) : before n (j + 1) = before n j + cat j * cat (n - j) := by
  unfold before
  rw [List.range_succ, List.map_append, List.sum_append]
  simp
theorem before_all (n : Nat) : before n (n + 1) = cat (n + 1) := (cat_succ n).symm
theorem before_mono (n : Nat) : ∀ {i j : Nat}, i ≤ j → before n i ≤ before n j := by
  intro i j h
  induction j with
  | zero => have : i = 0 := by omega
            subst this; exact Nat.le_refl _
  | succ j ih =>
    by_cases e : i = j + 1
    · rw [e]; exact Nat.le_refl _
    · have := ih (by omega)
      rw [before_succ]
      omega
def rank : BT → Nat
  | .nil => 0
  | .node l r => before (l.size + r.size) l.size + rank l * cat r.size + rank r
theorem rank_lt : ∀ t : BT, rank t < cat t.size
  | .nil => by show 0 < cat 0; rw [cat]; omega
  | .node l r => by
    have hl := rank_lt l
    have hr := rank_lt r
    show before (l.size + r.size) l.size + rank l * cat r.size + rank r < cat (l.size + r.size + 1)
    rw [← before_all]
    have h1 : before (l.size + r.size) (l.size + 1) ≤ before (l.size + r.size) (l.size + r.size + 1) := before_mono _ (by omega)
    rw [before_succ] at h1
    have e : l.size + r.size - l.size = r.size := by omega
    rw [e] at h1
    have h2 : rank l * cat r.size + cat r.size ≤ cat l.size * cat r.size := by
      have : (rank l + 1) * cat r.size ≤ cat l.size * cat r.size := Nat.mul_le_mul_right _ hl
      rw [Nat.add_mul, Nat.one_mul] at this
      exact this
    omega
theorem rank_parts (l r : BT) : before (l.size + r.size) l.size ≤ rank (.node l r) ∧ rank (.node l r) < before (l.size + r.size) (l.size + 1) := by
  have hl := rank_lt l
  have hr := rank_lt r
  have e : l.size + r.size - l.size = r.size := by omega
  rw [before_succ, e]
  have h2 : rank l * cat r.size + cat r.size ≤ cat l.size * cat r.size := by
    have : (rank l + 1) * cat r.size ≤ cat l.size * cat r.size := Nat.mul_le_mul_right _ hl
    rw [Nat.add_mul, Nat.one_mul] at this
    exact this
  show _ ≤ before (l.size + r.size) l.size + rank l * cat r.size + rank r ∧ before (l.size + r.size) l.size + rank l * cat r.size + rank r < _
  omega
theorem rank_inj : ∀ t t' : BT, t.size = t'.size → rank t = rank t' → t = t'
  | .nil, .nil, _, _ => rfl
  | .nil, .node _ _, h, _ => by simp [BT.size] at h
  | .node _ _, .nil, h, _ => by simp [BT.size] at h
  | .node l r, .node l' r', h, e => by
    have hs : l.size + r.size + 1 = l'.size + r'.size + 1 := h
    have p := rank_parts l r
    have p' := rank_parts l' r'
    have es : l.size + r.size = l'.size + r'.size := by omega
    rw [e, es] at p
    have e1 : l.size = l'.size := by
      rcases Nat.lt_trichotomy l.size l'.size with z | z | z
      · have := before_mono (l'.size + r'.size) (show l.size + 1 ≤ l'.size by omega); omega
      · exact z
      · have := before_mono (l'.size + r'.size) (show l'.size + 1 ≤ l.size by omega); omega
    have e2 : r.size = r'.size := by omega
    have e3 : before (l.size + r.size) l.size + rank l * cat r.size + rank r = before (l'.size + r'.size) l'.size + rank l' * cat r'.size + rank r' := e
    rw [e1, e2] at e3
    have hr := rank_lt r
    have hr' := rank_lt r'
    rw [e2] at hr
    have e4 : rank l * cat r'.size + rank r = rank l' * cat r'.size + rank r' := by omega
    have q1 : rank l = rank l' := by
      have a : (rank l * cat r'.size + rank r) / cat r'.size = rank l := by
        rw [Nat.mul_comm, Nat.mul_add_div (by omega), Nat.div_eq_of_lt hr, Nat.add_zero]
      have b : (rank l' * cat r'.size + rank r') / cat r'.size = rank l' := by
        rw [Nat.mul_comm, Nat.mul_add_div (by omega), Nat.div_eq_of_lt hr', Nat.add_zero]
      rw [← a, e4, b]
    have q2 : rank r = rank r' := by rw [q1] at e4; omega
    rw [rank_inj l l' e1 q1, rank_inj r r' e2 q2]
theorem before_find (n k : Nat) : ∀ j, k < before n j → ∃ i, i < j ∧ before n i ≤ k ∧ k < before n (i + 1)
  | 0, h => by simp [before] at h
  | j + 1, h => by
    by_cases c : k < before n j
    · obtain ⟨i, h1, h2, h3⟩ := before_find n k j c
      exact ⟨i, by omega, h2, h3⟩
    · exact ⟨j, by omega, by omega, h⟩
theorem rank_node {n i k : Nat} {l r : BT} (hi : i ≤ n) (hl : l.size = i) (hr : r.size = n - i) (h1 : before n i ≤ k) (el : rank l = (k - before n i) / cat (n - i)) (er : rank r = (k - before n i) % cat (n - i)) : rank (.node l r) = k := by
  show before (l.size + r.size) l.size + rank l * cat r.size + rank r = k
  have e : i + (n - i) = n := by omega
  rw [hl, hr, e, el, er]
  have := Nat.div_add_mod (k - before n i) (cat (n - i))
  rw [Nat.mul_comm] at this
  omega
theorem rank_surj : ∀ n k, k < cat n → ∃ t : BT, t.size = n ∧ rank t = k := by
  intro n
  induction n using Nat.strongRecOn with
  | ind n ih =>
    intro k hk
    cases n with
    | zero => rw [cat] at hk; exact ⟨.nil, rfl, by show 0 = k; omega⟩
    | succ n =>
      rw [← before_all] at hk
      obtain ⟨i, h1, h2, h3⟩ := before_find n k _ hk
      rw [before_succ] at h3
      have hp : 0 < cat (n - i) := by
        rcases Nat.eq_zero_or_pos (cat (n - i)) with z | z
        · rw [z, Nat.mul_zero] at h3; omega
        · exact z
      obtain ⟨l, l1, l2⟩ := ih i h1 ((k - before n i) / cat (n - i)) (by
        rw [Nat.div_lt_iff_lt_mul hp]
        omega)
      obtain ⟨r, r1, r2⟩ := ih (n - i) (by omega) ((k - before n i) % cat (n - i)) (Nat.mod_lt _ hp)
      exact ⟨.node l r, by show l.size + r.size + 1 = n + 1; omega, rank_node (by omega) l1 r1 h2 l2 r2⟩
theorem cat_pos (n : Nat) : 0 < cat n := by
  induction n using Nat.strongRecOn with
  | ind n ih =>
    cases n with
    | zero => rw [cat]; omega
    | succ n =>
      rw [← before_all]
      have h : before n 1 ≤ before n (n + 1) := before_mono n (by omega)
      have e : before n 1 = cat 0 * cat (n - 0) := by rw [before_succ]; show 0 + _ = _; omega
      rw [e, cat, Nat.one_mul] at h
      have := ih (n - 0) (by omega)
      omega
end Cart

namespace Cart
def orders : Nat → List (List Nat)
  | 0 => [[]]
  | k + 1 => (orders k).flatMap fun row => (List.range (k + 1)).map fun at_ => row.take at_ ++ k :: row.drop at_
theorem orders_perm : ∀ (n : Nat) (o : List Nat), o ∈ orders n → o.Perm (List.range n)
  | 0, o, h => by
    have : o = [] := by simpa [orders] using h
    subst this
    exact .refl _
  | n + 1, o, h => by
    obtain ⟨row, h1, h2⟩ := List.mem_flatMap.mp h
    obtain ⟨at_, h3, rfl⟩ := List.mem_map.mp h2
    have p := orders_perm n row h1
    have q : (row.take at_ ++ n :: row.drop at_).Perm (n :: (row.take at_ ++ row.drop at_)) := List.perm_middle
    rw [List.take_append_drop] at q
    rw [List.range_succ]
    exact q.trans ((List.Perm.cons n p).trans (List.perm_append_singleton n _).symm)
theorem perm_orders : ∀ (n : Nat) (o : List Nat), o.Perm (List.range n) → o ∈ orders n
  | 0, o, h => by
    have : o = [] := by simpa using h
    subst this
    simp [orders]
  | n + 1, o, h => by
    have hn : n ∈ o := h.mem_iff.mpr (List.mem_range.mpr (by omega))
    obtain ⟨a, b, rfl⟩ := List.append_of_mem hn
    have q : (a ++ n :: b).Perm (n :: (a ++ b)) := List.perm_middle
    have q2 : (n :: (a ++ b)).Perm (n :: List.range n) := by
      rw [List.range_succ] at h
      exact q.symm.trans (h.trans (List.perm_append_singleton n _))
    have q3 : (a ++ b).Perm (List.range n) := List.Perm.cons_inv q2
    have hl := q3.length_eq
    rw [List.length_append, List.length_range] at hl
    refine List.mem_flatMap.mpr ⟨a ++ b, perm_orders n _ q3, List.mem_map.mpr ⟨a.length, List.mem_range.mpr (by omega), ?_⟩⟩
    rw [List.take_left, List.drop_left]
theorem orders_iff {n : Nat} {o : List Nat} : o ∈ orders n ↔ o.Perm (List.range n) := ⟨orders_perm n o, perm_orders n o⟩
theorem nodup_perm {α : Type} {a b : List α} (h : a.Nodup) (p : a.Perm b) : b.Nodup := p.nodup_iff.mp h
theorem ins_inj {n i j : Nat} {a b : List Nat} (ha : n ∉ a) (hb : n ∉ b) (hi : i ≤ a.length) (hj : j ≤ b.length) (e : a.take i ++ n :: a.drop i = b.take j ++ n :: b.drop j) : a = b ∧ i = j := by
  have i1 : (a.take i ++ n :: a.drop i).idxOf n = i := by
    rw [List.idxOf_append, if_neg (fun z => ha (List.mem_of_mem_take z)), List.idxOf_cons_self, List.length_take]
    omega
  have i2 : (b.take j ++ n :: b.drop j).idxOf n = j := by
    rw [List.idxOf_append, if_neg (fun z => hb (List.mem_of_mem_take z)), List.idxOf_cons_self, List.length_take]
    omega
  have eij : i = j := by rw [← i1, e, i2]
  subst eij
  obtain ⟨e1, e2⟩ := List.append_inj e (by
    have := congrArg List.length e
    rw [List.length_append, List.length_append, List.length_cons, List.length_cons, List.length_take, List.length_take, List.length_drop, List.length_drop] at this
    rw [List.length_take, List.length_take]
    omega)
  have e3 := (List.cons.inj e2).2
  refine ⟨?_, rfl⟩
  rw [← List.take_append_drop i a, e1, e3, List.take_append_drop]
theorem orders_nodup : ∀ n, (orders n).Nodup
  | 0 => by simp [orders]
  | n + 1 => by
    have fact : ∀ row ∈ orders n, n ∉ row ∧ row.length = n := fun row h => by
      have p := orders_perm n row h
      refine ⟨fun z => ?_, by rw [p.length_eq, List.length_range]⟩
      have := List.mem_range.mp (p.mem_iff.mp z)
      omega
    show ((orders n).flatMap _).Nodup
    unfold List.Nodup
    rw [List.pairwise_flatMap]
    refine ⟨fun row hr => ?_, ?_⟩
    · obtain ⟨f1, f2⟩ := fact row hr
      rw [List.pairwise_map]
      refine List.Pairwise.imp_of_mem (fun {i j} hi hj hij e => ?_) List.nodup_range
      have hi' := List.mem_range.mp hi
      have hj' := List.mem_range.mp hj
      exact hij (ins_inj f1 f1 (by omega) (by omega) e).2
    · refine List.Pairwise.imp_of_mem (fun {a b} ha hb hab => ?_) (orders_nodup n)
      obtain ⟨f1, f2⟩ := fact a ha
      obtain ⟨g1, g2⟩ := fact b hb
      intro x hx y hy e
      obtain ⟨i, hi, rfl⟩ := List.mem_map.mp hx
      obtain ⟨j, hj, rfl⟩ := List.mem_map.mp hy
      have hi' := List.mem_range.mp hi
      have hj' := List.mem_range.mp hj
      exact hab (ins_inj f1 g1 (by omega) (by omega) e).1
def BT.pre : BT → Nat → List Nat
  | .nil, _ => []
  | .node l r, s => l.pre (s + 1) ++ s :: r.pre (s + 1 + l.size)
theorem pre_len : ∀ (t : BT) (s : Nat), (t.pre s).length = t.size
  | .nil, _ => rfl
  | .node l r, s => by
    show (l.pre (s + 1) ++ s :: r.pre (s + 1 + l.size)).length = l.size + r.size + 1
    rw [List.length_append, List.length_cons, pre_len l, pre_len r]
    omega
theorem pre_perm : ∀ (t : BT) (s : Nat), (t.pre s).Perm (List.range' s t.size)
  | .nil, _ => .refl _
  | .node l r, s => by
    show (l.pre (s + 1) ++ s :: r.pre (s + 1 + l.size)).Perm (List.range' s (l.size + r.size + 1))
    rw [List.range'_succ]
    refine List.perm_middle.trans (List.Perm.cons s ?_)
    rw [← List.range'_append_1]
    exact (pre_perm l (s + 1)).append (pre_perm r (s + 1 + l.size))
theorem pre_mem {t : BT} {s i : Nat} (h : i < t.size) : s ≤ (t.pre s).getD i 0 ∧ (t.pre s).getD i 0 < s + t.size := by
  have hi : i < (t.pre s).length := by rw [pre_len]; exact h
  have e : (t.pre s).getD i 0 = (t.pre s)[i] := by simp [List.getD, hi]
  rw [e]
  have := (pre_perm t s).mem_iff.mp (List.getElem_mem hi)
  have := List.mem_range'_1.mp this
  omega
theorem fits_pre : ∀ (t : BT) (g : Nat → Int) (f s : Nat), (∀ i, i < t.size → g (f + i) = ((t.pre s).getD i 0 : Nat)) → Fits g f t
  | .nil, _, _, _, _ => trivial
  | .node l r, g, f, s, h => by
    have hs : (BT.node l r).size = l.size + r.size + 1 := rfl
    have hd : (BT.node l r).pre s = l.pre (s + 1) ++ s :: r.pre (s + 1 + l.size) := rfl
    have e0 : g (f + l.size) = (s : Nat) := by
      rw [h _ (by omega), hd, List.getD_eq_getElem?_getD, List.getElem?_append_right (by rw [pre_len]; exact Nat.le_refl _), pre_len, Nat.sub_self]
      rfl
    have eL : ∀ i, i < l.size → g (f + i) = ((l.pre (s + 1)).getD i 0 : Nat) := fun i hi => by
      rw [h _ (by omega), hd, List.getD_eq_getElem?_getD, List.getElem?_append_left (by rw [pre_len]; exact hi), ← List.getD_eq_getElem?_getD]
    have eR : ∀ i, i < r.size → g (f + l.size + 1 + i) = ((r.pre (s + 1 + l.size)).getD i 0 : Nat) := fun i hi => by
      have e : f + l.size + 1 + i = f + (l.size + 1 + i) := by omega
      rw [e, h _ (by omega), hd, List.getD_eq_getElem?_getD, List.getElem?_append_right (by rw [pre_len]; omega), pre_len]
      have e : l.size + 1 + i - l.size = i + 1 := by omega
      rw [e, List.getElem?_cons_succ, ← List.getD_eq_getElem?_getD]
    refine ⟨fun j h1 h2 => ?_, fun j h1 h2 => ?_, fits_pre l g f _ eL, fits_pre r g _ _ eR⟩
    · have e : j = f + (j - f) := by omega
      rw [e0, e, eL _ (by omega)]
      have := pre_mem (t := l) (s := s + 1) (i := j - f) (by omega)
      omega
    · have e : j = f + l.size + 1 + (j - (f + l.size + 1)) := by omega
      rw [e0, e, eR _ (by omega)]
      have := pre_mem (t := r) (s := s + 1 + l.size) (i := j - (f + l.size + 1)) (by omega)
      omega
theorem order_of (t : BT) : ∃ o ∈ orders t.size, Fits (fun j => (o.getD j 0 : Nat)) 0 t := by
  refine ⟨t.pre 0, perm_orders _ _ ?_, fits_pre t _ 0 0 fun i _ => by rw [Nat.zero_add]⟩
  rw [List.range_eq_range']
  exact pre_perm t 0
def fact : Nat → Nat
  | 0 => 1
  | n + 1 => (n + 1) * fact n
theorem fact_pos : ∀ n, 0 < fact n
  | 0 => Nat.one_pos
  | n + 1 => Nat.mul_pos (Nat.succ_pos _) (fact_pos n)
def hooks : BT → Nat
  | .nil => 1
  | .node l r => (l.size + r.size + 1) * (hooks l * hooks r)
theorem hooks_pos : ∀ t, 0 < hooks t
  | .nil => Nat.one_pos
  | .node l r => Nat.mul_pos (Nat.succ_pos _) (Nat.mul_pos (hooks_pos l) (hooks_pos r))
def choose : Nat → Nat → Nat
  | _, 0 => 1
  | 0, _ + 1 => 0
  | n + 1, k + 1 => choose n k + choose n (k + 1)
theorem choose_gt : ∀ {n k : Nat}, n < k → choose n k = 0
  | 0, k + 1, _ => rfl
  | n + 1, k + 1, h => by
    show choose n k + choose n (k + 1) = 0
    rw [choose_gt (by omega), choose_gt (by omega)]
theorem choose_self : ∀ n, choose n n = 1
  | 0 => rfl
  | n + 1 => by
    show choose n n + choose n (n + 1) = 1
    rw [choose_self n, choose_gt (by omega)]
theorem choose_fact : ∀ (a b : Nat), choose (a + b) a * (fact a * fact b) = fact (a + b) := by
  intro a b
  generalize hn : a + b = n
  induction n generalizing a b with
  | zero =>
    have ha : a = 0 := by omega
    have hb : b = 0 := by omega
    subst ha hb
    rfl
  | succ n ih =>
    cases a with
    | zero =>
      have hb : b = n + 1 := by omega
      subst hb
      show 1 * (1 * fact (n + 1)) = fact (n + 1)
      omega
    | succ a =>
      cases b with
      | zero =>
        have ha : a = n := by omega
        subst ha
        rw [choose_self]
        show 1 * (fact (a + 1) * 1) = fact (a + 1)
        omega
      | succ b =>
        have h1 := ih a (b + 1) (by omega)
        have h2 := ih (a + 1) b (by omega)
        show (choose n a + choose n (a + 1)) * (((a + 1) * fact a) * ((b + 1) * fact b)) = (n + 1) * fact n
        have h1' : choose n a * (fact a * ((b + 1) * fact b)) = fact n := h1
        have h2' : choose n (a + 1) * (((a + 1) * fact a) * fact b) = fact n := h2
        have e1 : choose n a * (((a + 1) * fact a) * ((b + 1) * fact b)) = (a + 1) * fact n := by
          rw [← h1']; ac_rfl
        have e2 : choose n (a + 1) * (((a + 1) * fact a) * ((b + 1) * fact b)) = (b + 1) * fact n := by
          rw [← h2']; ac_rfl
        rw [Nat.add_mul, e1, e2, ← Nat.add_mul]
        congr 1
def many : BT → Nat
  | .nil => 1
  | .node l r => choose (l.size + r.size) l.size * (many l * many r)
theorem many_hooks : ∀ t, many t * hooks t = fact t.size
  | .nil => rfl
  | .node l r => by
    show choose (l.size + r.size) l.size * (many l * many r) * ((l.size + r.size + 1) * (hooks l * hooks r)) = (l.size + r.size + 1) * fact (l.size + r.size)
    rw [← choose_fact l.size r.size, ← many_hooks l, ← many_hooks r]
    ac_rfl
theorem many_div (t : BT) : fact t.size / hooks t = many t := by
  rw [← many_hooks, Nat.mul_div_cancel _ (hooks_pos t)]
end Cart

namespace Cart
def BT.anc : BT → Nat → Nat → List Nat
  | .nil, _, _ => []
  | .node l r, o, p => if p < o + l.size then l.anc o p ++ [o + l.size] else if p = o + l.size then [o + l.size] else r.anc (o + l.size + 1) p ++ [o + l.size]
theorem anc_mem : ∀ (t : BT) (o p x : Nat), x ∈ t.anc o p → o ≤ x ∧ x < o + t.size
  | .nil, _, _, _, h => by cases h
  | .node l r, o, p, x, h => by
    have hs : (BT.node l r).size = l.size + r.size + 1 := rfl
    have hd : (BT.node l r).anc o p = if p < o + l.size then l.anc o p ++ [o + l.size] else if p = o + l.size then [o + l.size] else r.anc (o + l.size + 1) p ++ [o + l.size] := rfl
    rw [hd] at h
    split at h
    · rcases List.mem_append.mp h with h | h
      · have := anc_mem l o p x h; omega
      · have := List.mem_singleton.mp h; omega
    · split at h
      · have := List.mem_singleton.mp h; omega
      · rcases List.mem_append.mp h with h | h
        · have := anc_mem r _ p x h; omega
        · have := List.mem_singleton.mp h; omega
theorem anc_len : ∀ (t : BT) (o p : Nat), (t.anc o p).length ≤ t.size
  | .nil, _, _ => Nat.le_refl _
  | .node l r, o, p => by
    have hs : (BT.node l r).size = l.size + r.size + 1 := rfl
    have hd : (BT.node l r).anc o p = if p < o + l.size then l.anc o p ++ [o + l.size] else if p = o + l.size then [o + l.size] else r.anc (o + l.size + 1) p ++ [o + l.size] := rfl
    have h1 := anc_len l o p
    have h2 := anc_len r (o + l.size + 1) p
    rw [hd]
    split
    · rw [List.length_append, List.length_singleton]; omega
    · split
      · rw [List.length_singleton]; omega
      · rw [List.length_append, List.length_singleton]; omega
theorem anc_head : ∀ (t : BT) (o p : Nat), o ≤ p → p < o + t.size → (t.anc o p)[0]? = some p
  | .nil, o, p, h1, h2 => by
    have h2 : p < o + 0 := h2
    omega
  | .node l r, o, p, h1, h2 => by
    have hs : (BT.node l r).size = l.size + r.size + 1 := rfl
    have hd : (BT.node l r).anc o p = if p < o + l.size then l.anc o p ++ [o + l.size] else if p = o + l.size then [o + l.size] else r.anc (o + l.size + 1) p ++ [o + l.size] := rfl
    have key : ∀ (s : BT) (q : Nat), (s.anc q p)[0]? = some p → (s.anc q p ++ [o + l.size])[0]? = some p := fun s q h => by
      rw [List.getElem?_append_left (List.getElem?_eq_some_iff.mp h).1]
      exact h
    rw [hd]
    split
    · exact key l o (anc_head l o p h1 (by omega))
    · split
      · next e => rw [e]; rfl
      · exact key r _ (anc_head r _ p (by omega) (by omega))
theorem anc_next : ∀ (t : BT) (o p : Nat) (top : Option Nat), o ≤ p → p < o + t.size → ∀ i x, (t.anc o p)[i]? = some x → (t.list o top)[x - o]? = some (if i + 1 < (t.anc o p).length then (t.anc o p)[i + 1]? else top)
  | .nil, o, p, top, h1, h2, _, _, _ => by
    have h2 : p < o + 0 := h2
    omega
  | .node l r, o, p, top, h1, h2, i, x, hx => by
    have hs : (BT.node l r).size = l.size + r.size + 1 := rfl
    have hd : (BT.node l r).anc o p = if p < o + l.size then l.anc o p ++ [o + l.size] else if p = o + l.size then [o + l.size] else r.anc (o + l.size + 1) p ++ [o + l.size] := rfl
    have root : (BT.node l r).list o top = (BT.node l r).list o top → ((BT.node l r).list o top)[o + l.size - o]? = some top := fun _ => by
      have e : o + l.size - o = l.size := by omega
      rw [e]
      exact list_root l r o top
    have key : ∀ (s : BT) (q : Nat), (∀ i x, (s.anc q p)[i]? = some x → ((BT.node l r).list o top)[x - o]? = some (if i + 1 < (s.anc q p).length then (s.anc q p)[i + 1]? else some (o + l.size))) →
        (s.anc q p ++ [o + l.size])[i]? = some x → ((BT.node l r).list o top)[x - o]? = some (if i + 1 < (s.anc q p ++ [o + l.size]).length then (s.anc q p ++ [o + l.size])[i + 1]? else top) := by
      intro s q ih hx
      rw [List.length_append, List.length_singleton]
      rcases Nat.lt_or_ge i (s.anc q p).length with z | z
      · rw [List.getElem?_append_left z] at hx
        have w : i + 1 < (s.anc q p).length + 1 := by omega
        rw [ih i x hx, if_pos w]
        by_cases y : i + 1 < (s.anc q p).length
        · rw [if_pos y, List.getElem?_append_left y]
        · rw [if_neg y, List.getElem?_append_right (by omega)]
          have e : i + 1 - (s.anc q p).length = 0 := by omega
          rw [e]
          rfl
      · rw [List.getElem?_append_right z] at hx
        have e : i - (s.anc q p).length = 0 := by
          rcases Nat.eq_zero_or_pos (i - (s.anc q p).length) with y | y
          · exact y
          · rw [List.getElem?_eq_none (by rw [List.length_singleton]; omega)] at hx
            cases hx
        rw [e] at hx
        have hx' : o + l.size = x := Option.some.inj hx
        rw [if_neg (by omega), ← hx']
        exact root rfl
    rw [hd] at hx ⊢
    by_cases c1 : p < o + l.size
    · rw [if_pos c1] at hx ⊢
      refine key l o (fun i x hx => ?_) hx
      have m := anc_mem l o p x (List.mem_of_getElem? hx)
      rw [list_left l r o top (by omega)]
      exact anc_next l o p (some (o + l.size)) h1 c1 i x hx
    · rw [if_neg c1] at hx ⊢
      by_cases c2 : p = o + l.size
      · rw [if_pos c2] at hx ⊢
        have e : i = 0 := by
          rcases Nat.eq_zero_or_pos i with y | y
          · exact y
          · rw [List.getElem?_eq_none (by rw [List.length_singleton]; omega)] at hx
            cases hx
        subst e
        have hx' : o + l.size = x := Option.some.inj hx
        rw [← hx']
        exact root rfl
      · rw [if_neg c2] at hx ⊢
        refine key r (o + l.size + 1) (fun i x hx => ?_) hx
        have m := anc_mem r _ p x (List.mem_of_getElem? hx)
        have e : x - o = l.size + 1 + (x - (o + l.size + 1)) := by omega
        rw [e, list_right]
        exact anc_next r _ p (some (o + l.size)) (by omega) (by omega) i x hx
theorem anc_meet {g : Nat → Int} : ∀ (t : BT) (o p q : Nat), Fits g o t → o ≤ p → p ≤ q → q < o + t.size →
    ∃ h rest, (t.anc o p).filter (fun x => decide (x ∈ t.anc o q)) = h :: rest ∧ Head g p (q - p + 1) h
  | .nil, o, p, q, _, h1, h2, h3 => by
    have h3 : q < o + 0 := h3
    omega
  | .node l r, o, p, q, F, h1, h2, h3 => by
    have hs : (BT.node l r).size = l.size + r.size + 1 := rfl
    have hd : ∀ p, (BT.node l r).anc o p = if p < o + l.size then l.anc o p ++ [o + l.size] else if p = o + l.size then [o + l.size] else r.anc (o + l.size + 1) p ++ [o + l.size] := fun _ => rfl
    obtain ⟨F1, F2, F3, F4⟩ := F
    have side : ∀ (s : BT) (u : Nat), (∀ x, x ∈ s.anc u p → x ≠ o + l.size) → (∃ h rest, (s.anc u p).filter (fun x => decide (x ∈ s.anc u q)) = h :: rest ∧ Head g p (q - p + 1) h) →
        ∃ h rest, (s.anc u p ++ [o + l.size]).filter (fun x => decide (x ∈ s.anc u q ++ [o + l.size])) = h :: rest ∧ Head g p (q - p + 1) h := by
      rintro s u hne ⟨h, rest, e, H⟩
      refine ⟨h, rest ++ [o + l.size], ?_, H⟩
      rw [List.filter_append]
      have e1 : (s.anc u p).filter (fun x => decide (x ∈ s.anc u q ++ [o + l.size])) = (s.anc u p).filter (fun x => decide (x ∈ s.anc u q)) := by
        refine List.filter_congr fun x hx => ?_
        have := hne x hx
        simp [this]
      rw [e1, e]
      simp
    have mid : ∀ A B : List Nat, (∀ x ∈ A, x ∉ B) → p ≤ o + l.size → o + l.size ≤ q → (A ++ [o + l.size]).filter (fun x => decide (x ∈ B ++ [o + l.size])) = (A.filter fun x => decide (x = o + l.size)) ++ [o + l.size] := by
      intro A B hAB _ _
      rw [List.filter_append]
      have e1 : A.filter (fun x => decide (x ∈ B ++ [o + l.size])) = A.filter (fun x => decide (x = o + l.size)) := by
        refine List.filter_congr fun x hx => ?_
        have := hAB x hx
        simp [this]
      rw [e1]
      simp
    have rootHead : p ≤ o + l.size → o + l.size ≤ q → Head g p (q - p + 1) (o + l.size) := fun a b => ⟨a, by omega, fun j y1 y2 => F1 j (by omega) y2, fun j y1 y2 => F2 j y1 (by omega)⟩
    have fin : ∀ A B : List Nat, (∀ x ∈ A, x ∉ B) → (∀ x ∈ A, x ≠ o + l.size) → p ≤ o + l.size → o + l.size ≤ q → ∃ h rest, (A ++ [o + l.size]).filter (fun x => decide (x ∈ B ++ [o + l.size])) = h :: rest ∧ Head g p (q - p + 1) h := by
      intro A B hAB hne a b
      refine ⟨o + l.size, [], ?_, rootHead a b⟩
      rw [mid A B hAB a b]
      have e : A.filter (fun x => decide (x = o + l.size)) = [] := by
        rw [List.filter_eq_nil_iff]
        intro x hx
        have := hne x hx
        simp [this]
      rw [e]
      rfl
    rw [hd p, hd q]
    by_cases c1 : q < o + l.size
    · rw [if_pos c1, if_pos (by omega)]
      refine side l o (fun x hx => ?_) (anc_meet l o p q F3 h1 h2 c1)
      have := anc_mem l o p x hx
      omega
    · rw [if_neg c1]
      by_cases c2 : p < o + l.size
      · rw [if_pos c2]
        have ne : ∀ x ∈ l.anc o p, x ≠ o + l.size := fun x hx => by have := anc_mem l o p x hx; omega
        by_cases c3 : q = o + l.size
        · rw [if_pos c3]
          exact fin (l.anc o p) [] (fun x _ h => by cases h) ne (by omega) (by omega)
        · rw [if_neg c3]
          refine fin (l.anc o p) (r.anc (o + l.size + 1) q) (fun x hx hy => ?_) ne (by omega) (by omega)
          have := anc_mem l o p x hx
          have := anc_mem r _ q x hy
          omega
      · rw [if_neg c2]
        by_cases c4 : p = o + l.size
        · rw [if_pos c4]
          by_cases c3 : q = o + l.size
          · rw [if_pos c3]
            exact fin [] [] (fun x h => by cases h) (fun x h => by cases h) (by omega) (by omega)
          · rw [if_neg c3]
            exact fin [] (r.anc (o + l.size + 1) q) (fun x h => by cases h) (fun x h => by cases h) (by omega) (by omega)
        · rw [if_neg c4, if_neg (by omega)]
          refine side r (o + l.size + 1) (fun x hx => ?_) (anc_meet r _ p q F4 (by omega) h2 (by omega))
          have := anc_mem r _ p x hx
          omega
theorem over_le {g : Nat → Int} : ∀ (t : BT) (o : Nat) (top : Option Nat) (i : Nat) (x : Option Nat), Fits g o t → (t.list o top)[i]? = some x → x = top ∨ ∃ q, x = some q ∧ o ≤ q ∧ q < o + t.size ∧ q ≠ o + i ∧ g q ≤ g (o + i) ∧ (o + i < q → g q < g (o + i))
  | .nil, _, _, _, _, _, h => by cases h
  | .node l r, o, top, i, x, F, h => by
    have hs : (BT.node l r).size = l.size + r.size + 1 := rfl
    obtain ⟨F1, F2, F3, F4⟩ := F
    have hi : i < l.size + r.size + 1 := by
      have := (List.getElem?_eq_some_iff.mp h).1
      rw [list_len] at this
      omega
    rcases Nat.lt_trichotomy i l.size with z | z | z
    · rw [list_left l r o top z] at h
      right
      rcases over_le l o _ i x F3 h with e | ⟨q, e, h1, h2, h3, h4, h5⟩
      · refine ⟨o + l.size, e, by omega, by omega, by omega, ?_, fun _ => F1 (o + i) (by omega) (by omega)⟩
        exact Int.le_of_lt (F1 (o + i) (by omega) (by omega))
      · exact ⟨q, e, h1, by omega, h3, h4, h5⟩
    · subst z
      rw [list_root] at h
      exact .inl (Option.some.inj h).symm
    · have e : i = l.size + 1 + (i - l.size - 1) := by omega
      rw [e, list_right] at h
      right
      have e2 : o + l.size + 1 + (i - l.size - 1) = o + i := by omega
      rcases over_le r _ _ _ x F4 h with e | ⟨q, e, h1, h2, h3, h4, h5⟩
      · refine ⟨o + l.size, e, by omega, by omega, by omega, F2 (o + i) (by omega) (by omega), fun y => by omega⟩
      · rw [e2] at h3 h4 h5
        exact ⟨q, e, by omega, by omega, h3, h4, h5⟩
end Cart

namespace Cart
theorem flatMap_cong {α β : Type} {f g : α → List β} : ∀ {l : List α}, (∀ a ∈ l, f a = g a) → l.flatMap f = l.flatMap g
  | [], _ => rfl
  | a :: l, h => by
    rw [List.flatMap_cons, List.flatMap_cons, h a (List.mem_cons_self ..), flatMap_cong fun b hb => h b (List.mem_cons_of_mem _ hb)]
def allT : Nat → List BT
  | 0 => [.nil]
  | n + 1 => (List.range (n + 1)).attach.flatMap fun ⟨j, h⟩ => have : j < n + 1 := List.mem_range.mp h; (allT j).flatMap fun a => (allT (n - j)).map fun b => .node a b
theorem allT_succ (n : Nat) : allT (n + 1) = (List.range (n + 1)).flatMap fun j => (allT j).flatMap fun a => (allT (n - j)).map fun b => .node a b := by
  rw [allT]
  have : ((List.range (n + 1)).attach.flatMap fun (x : { x // x ∈ List.range (n + 1) }) => (allT x.1).flatMap fun a => (allT (n - x.1)).map fun b => BT.node a b) = (List.range (n + 1)).flatMap fun j => (allT j).flatMap fun a => (allT (n - j)).map fun b => .node a b := by
    have h := List.flatMap_map (f := Subtype.val) (g := fun j => (allT j).flatMap fun a => (allT (n - j)).map fun b => BT.node a b) (l := (List.range (n + 1)).attach)
    rw [List.attach_map_subtype_val] at h
    exact h.symm
  exact this
theorem allT_size : ∀ n, ∀ t ∈ allT n, t.size = n := by
  intro n
  induction n using Nat.strongRecOn with
  | ind n ih =>
    intro t ht
    cases n with
    | zero =>
      rw [allT] at ht
      rw [List.mem_singleton.mp ht]
      rfl
    | succ n =>
      rw [allT_succ] at ht
      obtain ⟨j, h1, h2⟩ := List.mem_flatMap.mp ht
      obtain ⟨a, h3, h4⟩ := List.mem_flatMap.mp h2
      obtain ⟨b, h5, rfl⟩ := List.mem_map.mp h4
      have hj := List.mem_range.mp h1
      show a.size + b.size + 1 = n + 1
      rw [ih j (by omega) a h3, ih (n - j) (by omega) b h5]
      omega
theorem range_block (base c : Nat) : ∀ m, ((List.range m).flatMap fun u => (List.range c).map fun v => base + u * c + v) = List.range' base (m * c)
  | 0 => by rw [Nat.zero_mul]; rfl
  | m + 1 => by
    rw [List.range_succ, List.flatMap_append, range_block base c m, List.flatMap_singleton, Nat.add_mul, Nat.one_mul, ← List.range'_append_1]
    congr 1
    rw [List.range'_eq_map_range]
theorem before_block (n : Nat) : ∀ k, ((List.range k).flatMap fun j => List.range' (before n j) (cat j * cat (n - j))) = List.range (before n k)
  | 0 => rfl
  | k + 1 => by
    rw [List.range_succ, List.flatMap_append, before_block n k, List.flatMap_singleton, before_succ, List.range_eq_range', List.range_eq_range', ← List.range'_append_1, Nat.zero_add]
theorem allT_rank : ∀ n, (allT n).map rank = List.range (cat n) := by
  intro n
  induction n using Nat.strongRecOn with
  | ind n ih =>
    cases n with
    | zero =>
      rw [allT, cat]
      rfl
    | succ n =>
      rw [allT_succ, List.map_flatMap, ← before_all, ← before_block]
      refine flatMap_cong fun j hj => ?_
      have hj' := List.mem_range.mp hj
      have e : n - j = n - j := rfl
      rw [List.map_flatMap, ← range_block]
      have h1 : ((allT j).flatMap fun a => ((allT (n - j)).map fun b => BT.node a b).map rank) = (allT j).flatMap fun a => (fun u => (List.range (cat (n - j))).map fun v => before n j + u * cat (n - j) + v) (rank a) := by
        refine flatMap_cong fun a ha => ?_
        dsimp only
        rw [List.map_map, ← ih (n - j) (by omega), List.map_map]
        refine List.map_congr_left fun b hb => ?_
        show before (a.size + b.size) a.size + rank a * cat b.size + rank b = before n j + rank a * cat (n - j) + rank b
        rw [allT_size _ a ha, allT_size _ b hb]
        have e : j + (n - j) = n := by omega
        rw [e]
      rw [h1, ← ih j (by omega), List.flatMap_map]
theorem allT_len (n : Nat) : (allT n).length = cat n := by
  have := congrArg List.length (allT_rank n)
  rw [List.length_map, List.length_range] at this
  exact this
theorem allT_at {n k : Nat} {t : BT} (h : (allT n)[k]? = some t) : t.size = n ∧ rank t = k := by
  refine ⟨allT_size n t (List.mem_of_getElem? h), ?_⟩
  have hk := (List.getElem?_eq_some_iff.mp h).1
  have e : ((allT n).map rank)[k]? = some (rank t) := by rw [List.getElem?_map, h]; rfl
  rw [allT_rank, List.getElem?_range (by rw [← allT_len]; exact hk)] at e
  exact (Option.some.inj e).symm
end Cart

namespace Cart
def tab : List Nat := [1, 1, 2, 5, 14, 42, 132, 429, 1430, 4862, 16796, 58786, 208012, 742900, 2674440, 9694845, 35357670, 129644790, 477638700, 1767263190, 6564120420, 24466267020, 91482563640, 343059613650, 1289904147324, 4861946401452, 18367353072152, 69533550916004, 263747951750360, 1002242216651368, 3814986502092304, 14544636039226909, 55534064877048198, 212336130412243110, 812944042149730764, 3116285494907301262, 11959798385860453492, 45950804324621742364, 176733862787006701400, 680425371729975800390, 2622127042276492108820]
theorem tab_step : ∀ n, n < 40 → ((List.range (n + 1)).map fun j => tab.getD j 0 * tab.getD (n - j) 0).sum = tab.getD (n + 1) 0 := by decide +kernel
theorem cat_tab : ∀ n, n ≤ 40 → cat n = tab.getD n 0 := by
  intro n
  induction n using Nat.strongRecOn with
  | ind n ih =>
    intro hn
    cases n with
    | zero => rw [cat]; rfl
    | succ n =>
      rw [cat_succ, ← tab_step n (by omega)]
      refine congrArg List.sum (List.map_congr_left fun j hj => ?_)
      have := List.mem_range.mp hj
      rw [ih j (by omega) (by omega), ih (n - j) (by omega) (by omega)]
theorem tab_small : ∀ n, n < 20 → tab.getD n 0 < 2 ^ 64 := by decide +kernel
theorem cat_small {n : Nat} (h : n < 20) : cat n < 2 ^ 64 := by
  rw [cat_tab n (by omega)]
  exact tab_small n h
theorem cat_pair {i j : Nat} (h : i + j < 40) : cat i < 2 ^ 64 ∨ cat j < 2 ^ 64 := by
  rcases Nat.lt_or_ge i 20 with z | z
  · exact .inl (cat_small z)
  · exact .inr (cat_small (by omega))
theorem sum_cast : ∀ l : List Nat, (l.map fun x : Nat => (x : Int)).sum = (l.sum : Nat)
  | [] => rfl
  | x :: l => by
    rw [List.map_cons, List.sum_cons, List.sum_cons, sum_cast l, Int.natCast_add]
end Cart

namespace Cart
def BT.sizes : BT → List Nat
  | .nil => []
  | .node l r => l.sizes ++ (l.size + r.size + 1) :: r.sizes
theorem sizes_len : ∀ t : BT, t.sizes.length = t.size
  | .nil => rfl
  | .node l r => by
    show (l.sizes ++ (l.size + r.size + 1) :: r.sizes).length = l.size + r.size + 1
    rw [List.length_append, List.length_cons, sizes_len l, sizes_len r]
    omega
def prod : List Nat → Nat
  | [] => 1
  | x :: l => x * prod l
theorem prod_append : ∀ a b, prod (a ++ b) = prod a * prod b
  | [], b => by show prod b = 1 * prod b; omega
  | x :: a, b => by
    show x * prod (a ++ b) = x * prod a * prod b
    rw [prod_append a b, Nat.mul_assoc]
theorem sizes_prod : ∀ t : BT, prod t.sizes = hooks t
  | .nil => rfl
  | .node l r => by
    show prod (l.sizes ++ (l.size + r.size + 1) :: r.sizes) = (l.size + r.size + 1) * (hooks l * hooks r)
    rw [prod_append]
    show prod l.sizes * ((l.size + r.size + 1) * prod r.sizes) = _
    rw [sizes_prod l, sizes_prod r]
    ac_rfl
def ups (t : BT) (o : Nat) (k : Nat) : List Nat := (List.range k).flatMap fun i => t.anc o (o + i)
theorem ups_succ (t : BT) (o k : Nat) : ups t o (k + 1) = ups t o k ++ t.anc o (o + k) := by
  unfold ups
  rw [List.range_succ, List.flatMap_append, List.flatMap_singleton]
theorem count_out (t : BT) (o p q : Nat) (h : q < o ∨ o + t.size ≤ q) : (t.anc o p).count q = 0 := by
  rw [List.count_eq_zero]
  intro hq
  have := anc_mem t o p q hq
  omega
theorem anc_l (l r : BT) (o p : Nat) (h : p < o + l.size) : (BT.node l r).anc o p = l.anc o p ++ [o + l.size] := by
  show (if p < o + l.size then _ else _) = _
  rw [if_pos h]
theorem anc_h (l r : BT) (o : Nat) : (BT.node l r).anc o (o + l.size) = [o + l.size] := by
  show (if o + l.size < o + l.size then _ else if o + l.size = o + l.size then _ else _) = _
  rw [if_neg (Nat.lt_irrefl _), if_pos rfl]
theorem anc_r (l r : BT) (o p : Nat) (h : o + l.size < p) : (BT.node l r).anc o p = r.anc (o + l.size + 1) p ++ [o + l.size] := by
  show (if p < o + l.size then _ else if p = o + l.size then _ else _) = _
  rw [if_neg (by omega), if_neg (by omega)]
theorem ups_count (t : BT) (o q : Nat) : ∀ k, (ups t o k).count q = ((List.range k).map fun i => (t.anc o (o + i)).count q).sum
  | 0 => rfl
  | k + 1 => by
    rw [ups_succ, List.count_append, ups_count t o q k, List.range_succ, List.map_append, List.sum_append]
    simp
theorem sum_range_add (f : Nat → Nat) (a : Nat) : ∀ b, ((List.range (a + b)).map f).sum = ((List.range a).map f).sum + ((List.range b).map fun i => f (a + i)).sum
  | 0 => by simp
  | b + 1 => by
    rw [← Nat.add_assoc, List.range_succ, List.map_append, List.sum_append, sum_range_add f a b, List.range_succ, List.map_append, List.sum_append]
    simp
    omega
theorem sum_congr {f g : Nat → Nat} {n : Nat} (h : ∀ i, i < n → f i = g i) : ((List.range n).map f).sum = ((List.range n).map g).sum :=
  congrArg List.sum (List.map_congr_left fun i hi => h i (List.mem_range.mp hi))
theorem sum_const (c : Nat) : ∀ n, ((List.range n).map fun _ => c).sum = n * c
  | 0 => by simp
  | n + 1 => by
    rw [List.range_succ, List.map_append, List.sum_append, sum_const c n, Nat.add_mul]
    simp
theorem sizes_count : ∀ (t : BT) (o i : Nat), i < t.size → (ups t o t.size).count (o + i) = t.sizes.getD i 0
  | .nil, _, _, h => by cases h
  | .node l r, o, i, h => by
    have hs : (BT.node l r).size = l.size + (1 + r.size) := by show l.size + r.size + 1 = _; omega
    have hz : (BT.node l r).sizes = l.sizes ++ (l.size + r.size + 1) :: r.sizes := rfl
    rw [ups_count, hs, sum_range_add, sum_range_add]
    have eL : ∀ k, k < l.size → ((BT.node l r).anc o (o + k)).count (o + i) = (l.anc o (o + k)).count (o + i) + (if i = l.size then 1 else 0) := fun k hk => by
      rw [anc_l l r o (o + k) (by omega), List.count_append, List.count_singleton]
      by_cases e : i = l.size
      · subst e; simp
      · rw [if_neg e, if_neg (by simp; omega)]
    have eH : ((BT.node l r).anc o (o + (l.size + 0))).count (o + i) = if i = l.size then 1 else 0 := by
      rw [Nat.add_zero, anc_h, List.count_singleton]
      by_cases e : i = l.size
      · subst e; simp
      · rw [if_neg e, if_neg (by simp; omega)]
    have eR : ∀ k, k < r.size → ((BT.node l r).anc o (o + (l.size + (1 + k)))).count (o + i) = (r.anc (o + l.size + 1) (o + l.size + 1 + k)).count (o + i) + (if i = l.size then 1 else 0) := fun k hk => by
      have e1 : o + (l.size + (1 + k)) = o + l.size + 1 + k := by omega
      rw [e1, anc_r l r o _ (by omega), List.count_append, List.count_singleton]
      by_cases e : i = l.size
      · subst e; simp
      · rw [if_neg e, if_neg (by simp; omega)]
    have s1 : ((List.range 1).map fun k => ((BT.node l r).anc o (o + (l.size + k))).count (o + i)).sum = if i = l.size then 1 else 0 := by
      show ((BT.node l r).anc o (o + (l.size + 0))).count (o + i) + 0 = _
      rw [eH]
      rfl
    rw [s1, sum_congr eL, sum_congr eR]
    have split : ∀ (f : Nat → Nat) (c n : Nat), ((List.range n).map fun k => f k + c).sum = ((List.range n).map f).sum + n * c := fun f c n => by
      induction n with
      | zero => simp
      | succ n ih =>
        rw [List.range_succ, List.map_append, List.sum_append, ih, List.map_append, List.sum_append, Nat.add_mul]
        simp
        omega
    rw [split (fun k => (l.anc o (o + k)).count (o + i)), split (fun k => (r.anc (o + l.size + 1) (o + l.size + 1 + k)).count (o + i)), ← ups_count, ← ups_count]
    rcases Nat.lt_trichotomy i l.size with z | z | z
    · have g : (l.sizes ++ (l.size + r.size + 1) :: r.sizes).getD i 0 = l.sizes.getD i 0 := by
        rw [List.getD_eq_getElem?_getD, List.getElem?_append_left (by rw [sizes_len]; exact z), ← List.getD_eq_getElem?_getD]
      rw [if_neg (by omega), sizes_count l o i z, hz, g]
      have e0 : (ups r (o + l.size + 1) r.size).count (o + i) = 0 := by
        rw [ups_count, sum_congr (g := fun _ => 0) (fun k _ => count_out r _ _ _ (.inl (by omega))), sum_const]
        omega
      rw [e0]
      omega
    · subst z
      rw [if_pos rfl, hz, List.getD_eq_getElem?_getD, List.getElem?_append_right (by rw [sizes_len]; exact Nat.le_refl _), sizes_len, Nat.sub_self]
      have e0 : (ups l o l.size).count (o + l.size) = 0 := by
        rw [ups_count, sum_congr (g := fun _ => 0) (fun k _ => count_out l _ _ _ (.inr (Nat.le_refl _))), sum_const]
        omega
      have e1 : (ups r (o + l.size + 1) r.size).count (o + l.size) = 0 := by
        rw [ups_count, sum_congr (g := fun _ => 0) (fun k _ => count_out r _ _ _ (.inl (by omega))), sum_const]
        omega
      rw [e0, e1]
      show _ = l.size + r.size + 1
      omega
    · have e2 : o + i = o + l.size + 1 + (i - l.size - 1) := by omega
      have hi : i - l.size - 1 < r.size := by
        have : i < l.size + (1 + r.size) := by rw [← hs]; exact h
        omega
      have e0 : (ups l o l.size).count (o + i) = 0 := by
        rw [ups_count, sum_congr (g := fun _ => 0) (fun k _ => count_out l _ _ _ (.inr (by omega))), sum_const]
        omega
      have g : (l.sizes ++ (l.size + r.size + 1) :: r.sizes).getD i 0 = r.sizes.getD (i - l.size - 1) 0 := by
        rw [List.getD_eq_getElem?_getD, List.getElem?_append_right (by rw [sizes_len]; omega), sizes_len]
        have e3 : i - l.size = (i - l.size - 1) + 1 := by omega
        rw [e3, List.getElem?_cons_succ, ← List.getD_eq_getElem?_getD]
        have e4 : i - l.size - 1 + 1 - 1 = i - l.size - 1 := by omega
        rw [e4]
      rw [if_neg (by omega), e0, e2, sizes_count r (o + l.size + 1) (i - l.size - 1) hi, hz, g]
      omega
end Cart

namespace Cart
theorem choose_zero (n : Nat) : choose n 0 = 1 := by cases n <;> rfl
theorem choose_step (n k : Nat) : choose (n + 1) (k + 1) = choose n k + choose n (k + 1) := rfl
def part : List Nat → Nat → Nat → List Nat × List Nat
  | [], _, _ => ([], [])
  | e :: E, a, k => if k < choose E.length a then ((part E a k).1, e :: (part E a k).2) else (e :: (part E (a - 1) (k - choose E.length a)).1, (part E (a - 1) (k - choose E.length a)).2)
def pnum : List Nat → List Nat → Nat → Nat
  | [], _, _ => 0
  | e :: E, S, a => if e ∈ S then choose E.length a + pnum E S (a - 1) else pnum E S a
structure Parted (E : List Nat) (a : Nat) (x y : List Nat) : Prop where
  len : x.length = a
  perm : (x ++ y).Perm E
  sx : x.Sublist E
  sy : y.Sublist E
theorem part_ok : ∀ (E : List Nat) (a k : Nat), k < choose E.length a → Parted E a (part E a k).1 (part E a k).2
  | [], a, k, h => by
    cases a with
    | zero => exact ⟨rfl, .refl _, .slnil, .slnil⟩
    | succ a => exact absurd h (Nat.not_lt_zero _)
  | e :: E, a, k, h => by
    by_cases c : k < choose E.length a
    · have ih := part_ok E a k c
      rw [part, if_pos c]
      exact ⟨ih.len, List.perm_middle.trans (.cons e ih.perm), .cons _ ih.sx, .cons₂ _ ih.sy⟩
    · rw [part, if_neg c]
      cases a with
      | zero =>
        rw [choose_zero] at c h
        exact absurd h c
      | succ a =>
        have h' : k < choose E.length a + choose E.length (a + 1) := h
        have ih := part_ok E a (k - choose E.length (a + 1)) (by omega)
        exact ⟨congrArg (· + 1) ih.len, .cons e ih.perm, .cons₂ _ ih.sx, .cons _ ih.sy⟩
theorem pnum_congr : ∀ (E : List Nat) {S S' : List Nat} (a : Nat), (∀ z ∈ E, z ∈ S ↔ z ∈ S') → pnum E S a = pnum E S' a
  | [], _, _, _, _ => rfl
  | e :: E, S, S', a, h => by
    have h' : ∀ z ∈ E, z ∈ S ↔ z ∈ S' := fun z hz => h z (List.mem_cons_of_mem _ hz)
    have he := h e (List.mem_cons_self ..)
    by_cases c : e ∈ S
    · rw [pnum, pnum, if_pos c, if_pos (he.mp c), pnum_congr E (a - 1) h']
    · rw [pnum, pnum, if_neg c, if_neg (fun z => c (he.mpr z)), pnum_congr E a h']
theorem pnum_part : ∀ (E : List Nat) (a k : Nat), E.Nodup → k < choose E.length a → pnum E (part E a k).1 a = k
  | [], a, k, _, h => by
    cases a with
    | zero =>
      have h' : k < 1 := h
      show 0 = k
      omega
    | succ a => exact absurd h (Nat.not_lt_zero _)
  | e :: E, a, k, hn, h => by
    obtain ⟨he, hn'⟩ := List.nodup_cons.mp hn
    by_cases c : k < choose E.length a
    · have ok := part_ok E a k c
      rw [part, if_pos c]
      show pnum (e :: E) (part E a k).1 a = k
      rw [pnum, if_neg (fun z => he (ok.sx.subset z))]
      exact pnum_part E a k hn' c
    · rw [part, if_neg c]
      cases a with
      | zero =>
        rw [choose_zero] at c h
        exact absurd h c
      | succ a =>
        have h' : k < choose E.length a + choose E.length (a + 1) := h
        show pnum (e :: E) (e :: (part E a (k - choose E.length (a + 1))).1) (a + 1) = k
        rw [pnum, if_pos (List.mem_cons_self ..)]
        have ih := pnum_part E a (k - choose E.length (a + 1)) hn' (by omega)
        have e1 : pnum E (e :: (part E a (k - choose E.length (a + 1))).1) (a + 1 - 1) = k - choose E.length (a + 1) := by
          rw [← ih]
          show pnum E _ a = _
          rw [ih]
          refine Eq.trans (pnum_congr E a fun z hz => ?_) ih
          rw [List.mem_cons]
          exact ⟨fun q => q.elim (fun q => absurd (q ▸ hz) he) id, .inr⟩
        rw [e1]
        omega
theorem choose_mono (n a : Nat) : choose n a ≤ choose (n + 1) a := by
  cases a with
  | zero => rw [choose_zero, choose_zero]; exact Nat.le_refl _
  | succ a => rw [choose_step]; omega
theorem part_pnum : ∀ (E S : List Nat) (a : Nat), a = (E.filter (· ∈ S)).length → pnum E S a < choose E.length a ∧ part E a (pnum E S a) = (E.filter (· ∈ S), E.filter (· ∉ S))
  | [], S, a, h => by
    subst h
    exact ⟨Nat.one_pos, rfl⟩
  | e :: E, S, a, h => by
    by_cases c : e ∈ S
    · rw [List.filter_cons, if_pos (by simpa using c)] at h
      cases a with
      | zero => exact absurd h.symm (Nat.succ_ne_zero _)
      | succ a =>
        have h' : a = (E.filter (· ∈ S)).length := Nat.succ.inj h
        obtain ⟨i1, i2⟩ := part_pnum E S a h'
        have e1 : pnum (e :: E) S (a + 1) = choose E.length (a + 1) + pnum E S a := by rw [pnum, if_pos c]; rfl
        rw [e1]
        refine ⟨?_, ?_⟩
        · show _ < choose E.length a + choose E.length (a + 1)
          omega
        · rw [part, if_neg (by omega), Nat.add_sub_cancel_left, Nat.add_sub_cancel, i2, List.filter_cons, if_pos (by simpa using c), List.filter_cons, if_neg (by simpa using c)]
    · rw [List.filter_cons, if_neg (by simpa using c)] at h
      obtain ⟨i1, i2⟩ := part_pnum E S a h
      have e1 : pnum (e :: E) S a = pnum E S a := by rw [pnum, if_neg c]
      rw [e1]
      refine ⟨Nat.lt_of_lt_of_le i1 (choose_mono _ _), ?_⟩
      rw [part, if_pos i1, i2, List.filter_cons, if_neg (by simpa using c), List.filter_cons, if_pos (by simpa using c)]
theorem filter_sub {x E : List Nat} (h : x.Sublist E) (hn : E.Nodup) : E.filter (· ∈ x) = x := by
  induction h with
  | slnil => rfl
  | @cons l1 l2 a h ih =>
    obtain ⟨ha, hn'⟩ := List.nodup_cons.mp hn
    rw [List.filter_cons, if_neg (by simpa using fun z => ha (h.subset z))]
    exact ih hn'
  | @cons_cons l1 l2 a h ih =>
    obtain ⟨ha, hn'⟩ := List.nodup_cons.mp hn
    rw [List.filter_cons, if_pos (by simp)]
    congr 1
    refine Eq.trans (List.filter_congr fun z hz => ?_) (ih hn')
    have : z ≠ a := fun q => ha (q ▸ hz)
    simp [this]
theorem parted_filter {E x y : List Nat} {a : Nat} (p : Parted E a x y) (hn : E.Nodup) : E.filter (· ∈ x) = x ∧ E.filter (· ∉ x) = y := by
  refine ⟨filter_sub p.sx hn, ?_⟩
  refine Eq.trans (List.filter_congr fun z hz => ?_) (filter_sub p.sy hn)
  have nd : (x ++ y).Nodup := p.perm.nodup_iff.mpr hn
  have hm : z ∈ x ∨ z ∈ y := List.mem_append.mp (p.perm.mem_iff.mpr hz)
  have hd := (List.nodup_append.mp nd).2.2
  by_cases c : z ∈ x
  · have : z ∉ y := fun q => hd z c z q rfl
    simp [c, this]
  · simp [c, hm.resolve_left c]
def ord : BT → List Nat → Nat → List Nat
  | .nil, _, _ => []
  | .node l r, E, k => ord l (part E.tail l.size (k / (many l * many r))).1 (k / many r % many l) ++ E.headD 0 :: ord r (part E.tail l.size (k / (many l * many r))).2 (k % many r)
def onum : BT → List Nat → List Nat → Nat
  | .nil, _, _ => 0
  | .node l r, E, o => (pnum E.tail (o.take l.size) l.size * many l + onum l (E.tail.filter (· ∈ o.take l.size)) (o.take l.size)) * many r + onum r (E.tail.filter (· ∉ o.take l.size)) (o.drop (l.size + 1))
def FitL : BT → List Nat → Prop
  | .nil, o => o = []
  | .node l r, o => ∃ x e y, o = x ++ e :: y ∧ x.length = l.size ∧ (∀ z ∈ x, e < z) ∧ (∀ z ∈ y, e ≤ z) ∧ FitL l x ∧ FitL r y
theorem FitL.len : ∀ {t : BT} {o : List Nat}, FitL t o → o.length = t.size
  | .nil, o, h => by
    have h' : o = [] := h
    rw [h']; rfl
  | .node l r, o, ⟨x, e, y, h1, h2, _, _, h5, h6⟩ => by
    have := h6.len
    rw [h1, List.length_append, List.length_cons]
    show _ = l.size + r.size + 1
    omega
theorem many_pos' (t : BT) : 0 < many t := by
  rcases Nat.eq_zero_or_pos (many t) with z | z
  · have h := many_hooks t
    rw [z, Nat.zero_mul] at h
    have := fact_pos t.size
    omega
  · exact z
theorem sort_nd {E : List Nat} (h : E.Pairwise (· < ·)) : E.Nodup := h.imp fun {a b} (q : a < b) => Nat.ne_of_lt q
theorem ord_ok : ∀ (t : BT) (E : List Nat) (k : Nat), E.Pairwise (· < ·) → E.length = t.size → k < many t → (ord t E k).Perm E ∧ FitL t (ord t E k) ∧ onum t E (ord t E k) = k
  | .nil, E, k, _, hl, hk => by
    have hE : E = [] := List.length_eq_zero_iff.mp hl
    subst hE
    have hk' : k < 1 := hk
    exact ⟨.refl _, rfl, by show 0 = k; omega⟩
  | .node l r, [], k, _, hl, _ => by
    have : 0 = l.size + r.size + 1 := hl
    omega
  | .node l r, e :: E, k, hs, hl, hk => by
    have hl' : E.length = l.size + r.size := Nat.succ.inj hl
    obtain ⟨hmin, hs'⟩ := List.pairwise_cons.mp hs
    have nd := sort_nd hs'
    have pl := many_pos' l
    have pr := many_pos' r
    have hk' : k < choose (l.size + r.size) l.size * (many l * many r) := hk
    have hkp : k / (many l * many r) < choose E.length l.size := by
      rw [hl', Nat.div_lt_iff_lt_mul (Nat.mul_pos pl pr)]
      exact hk'
    have pt := part_ok E l.size _ hkp
    have pn := pnum_part E l.size _ nd hkp
    show (ord l (part E l.size (k / (many l * many r))).1 (k / many r % many l) ++ e :: ord r (part E l.size (k / (many l * many r))).2 (k % many r)).Perm (e :: E) ∧ FitL (.node l r) (ord l (part E l.size (k / (many l * many r))).1 (k / many r % many l) ++ e :: ord r (part E l.size (k / (many l * many r))).2 (k % many r)) ∧
      onum (.node l r) (e :: E) (ord l (part E l.size (k / (many l * many r))).1 (k / many r % many l) ++ e :: ord r (part E l.size (k / (many l * many r))).2 (k % many r)) = k
    generalize (part E l.size (k / (many l * many r))).1 = x at pt pn ⊢
    generalize (part E l.size (k / (many l * many r))).2 = y at pt ⊢
    obtain ⟨fx, fy⟩ := parted_filter pt nd
    have hyl : y.length = r.size := by
      have := pt.perm.length_eq
      rw [List.length_append, pt.len] at this
      omega
    obtain ⟨a1, a2, a3⟩ := ord_ok l x (k / many r % many l) (hs'.sublist pt.sx) pt.len (Nat.mod_lt _ pl)
    obtain ⟨b1, b2, b3⟩ := ord_ok r y (k % many r) (hs'.sublist pt.sy) hyl (Nat.mod_lt _ pr)
    generalize ord l x (k / many r % many l) = o1 at a1 a2 a3 ⊢
    generalize ord r y (k % many r) = o2 at b1 b2 b3 ⊢
    have hl1 : o1.length = l.size := a2.len
    refine ⟨List.perm_middle.trans (.cons e ((a1.append b1).trans pt.perm)), ⟨o1, e, o2, rfl, hl1, fun z hz => hmin z (pt.sx.subset (a1.mem_iff.mp hz)), fun z hz => Nat.le_of_lt (hmin z (pt.sy.subset (b1.mem_iff.mp hz))), a2, b2⟩, ?_⟩
    have t1 : (o1 ++ e :: o2).take l.size = o1 := by rw [← hl1]; exact List.take_left ..
    have t2 : (o1 ++ e :: o2).drop (l.size + 1) = o2 := by
      have : o1 ++ e :: o2 = (o1 ++ [e]) ++ o2 := by rw [List.append_assoc]; rfl
      rw [this, ← hl1, show o1.length + 1 = (o1 ++ [e]).length by rw [List.length_append]; rfl]
      exact List.drop_left ..
    show (pnum E ((o1 ++ e :: o2).take l.size) l.size * many l + onum l (E.filter (· ∈ (o1 ++ e :: o2).take l.size)) ((o1 ++ e :: o2).take l.size)) * many r + onum r (E.filter (· ∉ (o1 ++ e :: o2).take l.size)) ((o1 ++ e :: o2).drop (l.size + 1)) = k
    rw [t1, t2]
    have m1 : ∀ z, z ∈ o1 ↔ z ∈ x := fun z => a1.mem_iff
    have g1 : E.filter (· ∈ o1) = x := by
      refine Eq.trans (List.filter_congr fun z _ => ?_) fx
      simp [m1 z]
    have g2 : E.filter (· ∉ o1) = y := by
      refine Eq.trans (List.filter_congr fun z _ => ?_) fy
      simp [m1 z]
    rw [g1, g2, a3, b3, pnum_congr E l.size fun z _ => m1 z, pn]
    have d1 : k / (many l * many r) = k / many r / many l := by rw [Nat.div_div_eq_div_mul, Nat.mul_comm]
    have d2 := Nat.div_add_mod (k / many r) (many l)
    have d3 := Nat.div_add_mod k (many r)
    rw [d1, Nat.mul_comm (k / many r / many l), d2, Nat.mul_comm]
    exact d3
theorem perm_filter_in {x y E : List Nat} (h : (x ++ y).Perm E) (hn : E.Nodup) : (E.filter (· ∈ x)).Perm x ∧ (E.filter (· ∉ x)).Perm y := by
  have nd : (x ++ y).Nodup := h.nodup_iff.mpr hn
  have hd := (List.nodup_append.mp nd).2.2
  refine ⟨?_, ?_⟩
  · refine (h.filter (· ∈ x)).symm.trans ?_
    rw [List.filter_append, List.filter_eq_self.mpr (fun z hz => by simpa using hz), List.filter_eq_nil_iff.mpr (fun z hz => by simpa using fun q => hd z q z hz rfl), List.append_nil]
  · refine (h.filter (· ∉ x)).symm.trans ?_
    rw [List.filter_append, List.filter_eq_nil_iff.mpr (fun z hz => by simpa using hz), List.filter_eq_self.mpr (fun z hz => by simpa using fun q => hd z q z hz rfl), List.nil_append]
theorem onum_ok : ∀ (t : BT) (E o : List Nat), E.Pairwise (· < ·) → o.Perm E → FitL t o → onum t E o < many t ∧ ord t E (onum t E o) = o
  | .nil, E, o, _, _, h => by
    have h' : o = [] := h
    subst h'
    exact ⟨Nat.one_pos, rfl⟩
  | .node l r, [], o, _, hp, h => by
    have := h.len
    rw [hp.length_eq] at this
    have : 0 = l.size + r.size + 1 := this
    omega
  | .node l r, e0 :: E, o, hs, hp, h => by
    obtain ⟨x, e, y, rfl, hx, hlt, hle, fx, fy⟩ := h
    obtain ⟨hmin, hs'⟩ := List.pairwise_cons.mp hs
    have nd := sort_nd hs'
    have ee : e = e0 := by
      have m1 : e ∈ e0 :: E := hp.mem_iff.mp (List.mem_append_right _ (List.mem_cons_self ..))
      have m2 : e0 ∈ x ++ e :: y := hp.mem_iff.mpr (List.mem_cons_self ..)
      have le1 : e0 ≤ e := by
        rcases List.mem_cons.mp m1 with q | q
        · exact Nat.le_of_eq q.symm
        · exact Nat.le_of_lt (hmin e q)
      rcases List.mem_append.mp m2 with q | q
      · have := hlt e0 q; omega
      · rcases List.mem_cons.mp q with q | q
        · exact q.symm
        · have := hle e0 q; omega
    subst ee
    have hp' : (x ++ y).Perm E := List.Perm.cons_inv (List.perm_middle.symm.trans hp)
    have pl := many_pos' l
    have pr := many_pos' r
    obtain ⟨p1, p2⟩ := perm_filter_in hp' nd
    obtain ⟨q1, q2⟩ := part_pnum E x l.size (by rw [p1.length_eq]; exact hx.symm)
    have t1 : (x ++ e :: y).take l.size = x := by rw [← hx]; exact List.take_left ..
    have t2 : (x ++ e :: y).drop (l.size + 1) = y := by
      have : x ++ e :: y = (x ++ [e]) ++ y := by rw [List.append_assoc]; rfl
      rw [this, ← hx, show x.length + 1 = (x ++ [e]).length by rw [List.length_append]; rfl]
      exact List.drop_left ..
    obtain ⟨a1, a2⟩ := onum_ok l (E.filter (· ∈ x)) x (hs'.sublist List.filter_sublist) p1.symm fx
    obtain ⟨b1, b2⟩ := onum_ok r (E.filter (· ∉ x)) y (hs'.sublist List.filter_sublist) p2.symm fy
    have eq : onum (.node l r) (e :: E) (x ++ e :: y) = (pnum E x l.size * many l + onum l (E.filter (· ∈ x)) x) * many r + onum r (E.filter (· ∉ x)) y := by
      show (pnum E ((x ++ e :: y).take l.size) l.size * many l + onum l (E.filter (· ∈ (x ++ e :: y).take l.size)) ((x ++ e :: y).take l.size)) * many r + onum r (E.filter (· ∉ (x ++ e :: y).take l.size)) ((x ++ e :: y).drop (l.size + 1)) = _
      rw [t1, t2]
    rw [eq]
    have hEl : E.length = l.size + r.size := by
      have := hp'.length_eq
      rw [List.length_append, hx, fy.len] at this
      exact this.symm
    generalize hP : pnum E x l.size = p at q1 q2
    generalize onum l (E.filter (· ∈ x)) x = k1 at a1 a2
    generalize onum r (E.filter (· ∉ x)) y = k2 at b1 b2
    have f1 : ((p * many l + k1) * many r + k2) / many r = p * many l + k1 := by
      rw [Nat.mul_comm, Nat.mul_add_div pr, Nat.div_eq_of_lt b1, Nat.add_zero]
    have f2 : ((p * many l + k1) * many r + k2) % many r = k2 := by
      rw [Nat.mul_comm, Nat.mul_add_mod, Nat.mod_eq_of_lt b1]
    have f3 : (p * many l + k1) / many l = p := by
      rw [Nat.mul_comm, Nat.mul_add_div pl, Nat.div_eq_of_lt a1, Nat.add_zero]
    have f4 : (p * many l + k1) % many l = k1 := by
      rw [Nat.mul_comm, Nat.mul_add_mod, Nat.mod_eq_of_lt a1]
    refine ⟨?_, ?_⟩
    · show _ < choose (l.size + r.size) l.size * (many l * many r)
      rw [← hEl]
      have h1 : p * many l + k1 < choose E.length l.size * many l := by
        have : (p + 1) * many l ≤ choose E.length l.size * many l := Nat.mul_le_mul_right _ q1
        rw [Nat.add_mul, Nat.one_mul] at this
        omega
      have h2 : (p * many l + k1 + 1) * many r ≤ choose E.length l.size * many l * many r := Nat.mul_le_mul_right _ h1
      rw [Nat.add_mul, Nat.one_mul] at h2
      rw [← Nat.mul_assoc]
      omega
    · show ord l (part E l.size (((p * many l + k1) * many r + k2) / (many l * many r))).1 (((p * many l + k1) * many r + k2) / many r % many l) ++ e :: ord r (part E l.size (((p * many l + k1) * many r + k2) / (many l * many r))).2 (((p * many l + k1) * many r + k2) % many r) = _
      have f5 : ((p * many l + k1) * many r + k2) / (many l * many r) = p := by
        rw [Nat.mul_comm (many l), ← Nat.div_div_eq_div_mul, f1, f3]
      rw [f5, f1, f4, f2, q2, a2, b2]
theorem onum_inj {t : BT} {E o o' : List Nat} (hs : E.Pairwise (· < ·)) (h : o.Perm E) (h' : o'.Perm E) (f : FitL t o) (f' : FitL t o') (e : onum t E o = onum t E o') : o = o' := by
  rw [← (onum_ok t E o hs h f).2, e, (onum_ok t E o' hs h' f').2]
theorem fit_iff : ∀ (t : BT) (o : List Nat) (g : Nat → Int) (f : Nat), o.length = t.size → (∀ i, i < t.size → g (f + i) = ((o.getD i 0 : Nat) : Int)) → (Fits g f t ↔ FitL t o)
  | .nil, o, g, f, hl, _ => ⟨fun _ => List.length_eq_zero_iff.mp hl, fun _ => trivial⟩
  | .node l r, o, g, f, hl, hg => by
    have hs : (BT.node l r).size = l.size + r.size + 1 := rfl
    have hlo : l.size < o.length := by omega
    have dec : o = o.take l.size ++ o[l.size] :: o.drop (l.size + 1) := by
      rw [← List.drop_eq_getElem_cons hlo, List.take_append_drop]
    have hxl : (o.take l.size).length = l.size := by rw [List.length_take]; omega
    have hyl : (o.drop (l.size + 1)).length = r.size := by rw [List.length_drop]; omega
    have at_ : ∀ i (h : i < o.length), o.getD i 0 = o[i] := fun i h => by rw [List.getD_eq_getElem?_getD, List.getElem?_eq_getElem h]; rfl
    have gx : ∀ i, i < l.size → g (f + i) = (((o.take l.size).getD i 0 : Nat) : Int) := fun i hi => by
      rw [hg i (by omega), List.getD_eq_getElem?_getD, List.getD_eq_getElem?_getD, List.getElem?_take_of_lt hi]
    have gy : ∀ i, i < r.size → g (f + l.size + 1 + i) = (((o.drop (l.size + 1)).getD i 0 : Nat) : Int) := fun i hi => by
      have e : f + l.size + 1 + i = f + (l.size + 1 + i) := by omega
      rw [e, hg _ (by omega), List.getD_eq_getElem?_getD, List.getD_eq_getElem?_getD, List.getElem?_drop]
    have g0 : g (f + l.size) = ((o[l.size] : Nat) : Int) := by rw [hg _ (by omega), at_ _ hlo]
    have il := fit_iff l (o.take l.size) g f hxl gx
    have ir := fit_iff r (o.drop (l.size + 1)) g (f + l.size + 1) hyl gy
    constructor
    · rintro ⟨a1, a2, a3, a4⟩
      refine ⟨_, _, _, dec, hxl, fun z hz => ?_, fun z hz => ?_, il.mp a3, ir.mp a4⟩
      · obtain ⟨i, hi, rfl⟩ := List.getElem_of_mem hz
        rw [hxl] at hi
        have := a1 (f + i) (by omega) (by omega)
        rw [g0, gx i hi, List.getD_eq_getElem?_getD, List.getElem?_eq_getElem (by rw [hxl]; exact hi)] at this
        exact_mod_cast this
      · obtain ⟨i, hi, rfl⟩ := List.getElem_of_mem hz
        rw [hyl] at hi
        have := a2 (f + l.size + 1 + i) (by omega) (by omega)
        rw [g0, gy i hi, List.getD_eq_getElem?_getD, List.getElem?_eq_getElem (by rw [hyl]; exact hi)] at this
        exact_mod_cast this
    · rintro ⟨x, e, y, h1, h2, h3, h4, h5, h6⟩
      have c1 : o.take l.size = x := by rw [h1, ← h2]; exact List.take_left ..
      have c2 : o.drop (l.size + 1) = y := by
        rw [h1, show x ++ e :: y = (x ++ [e]) ++ y by rw [List.append_assoc]; rfl, ← h2, show x.length + 1 = (x ++ [e]).length by rw [List.length_append]; rfl]
        exact List.drop_left ..
      have c0 : g (f + l.size) = ((e : Nat) : Int) := by
        rw [hg _ (by omega), h1, List.getD_eq_getElem?_getD, ← h2, List.getElem?_append_right (Nat.le_refl _), Nat.sub_self]
        rfl
      rw [c1] at gx il hxl
      rw [c2] at gy ir hyl
      refine ⟨fun j z1 z2 => ?_, fun j z1 z2 => ?_, il.mpr h5, ir.mpr h6⟩
      · have e1 : j = f + (j - f) := by omega
        rw [c0, e1, gx _ (by omega), List.getD_eq_getElem?_getD, List.getElem?_eq_getElem (by omega)]
        have := h3 _ (List.getElem_mem (l := x) (n := j - f) (by omega))
        exact_mod_cast this
      · have e1 : j = f + l.size + 1 + (j - (f + l.size + 1)) := by omega
        rw [c0, e1, gy _ (by omega), List.getD_eq_getElem?_getD, List.getElem?_eq_getElem (by omega)]
        have := h4 _ (List.getElem_mem (l := y) (n := j - (f + l.size + 1)) (by omega))
        exact_mod_cast this
theorem choose_rec : ∀ (n k : Nat), choose n k * (n - k) = choose n (k + 1) * (k + 1)
  | n, k => by
    rcases Nat.lt_or_ge n k with h | h
    · rw [choose_gt h, choose_gt (by omega)]
      omega
    · obtain ⟨d, rfl⟩ : ∃ d, n = k + d := ⟨n - k, by omega⟩
      cases d with
      | zero =>
        rw [choose_gt (show k + 0 < k + 1 by omega)]
        simp
      | succ d =>
        have h1 := choose_fact k (d + 1)
        have h2 := choose_fact (k + 1) d
        have e : k + 1 + d = k + (d + 1) := by omega
        rw [e] at h2
        have p : 0 < fact k * fact d := Nat.mul_pos (fact_pos _) (fact_pos _)
        refine Nat.eq_of_mul_eq_mul_right p ?_
        have l1 : choose (k + (d + 1)) k * (k + (d + 1) - k) * (fact k * fact d) = choose (k + (d + 1)) k * (fact k * ((d + 1) * fact d)) := by
          rw [show k + (d + 1) - k = d + 1 by omega]
          ac_rfl
        have l2 : choose (k + (d + 1)) (k + 1) * (k + 1) * (fact k * fact d) = choose (k + (d + 1)) (k + 1) * ((k + 1) * fact k * fact d) := by
          ac_rfl
        rw [l1, l2]
        exact h1.trans h2.symm
theorem choose_div (n k : Nat) : choose n k * (n - k) / (k + 1) = choose n (k + 1) := by
  rw [choose_rec, Nat.mul_div_cancel _ (Nat.succ_pos k)]
theorem choose_le : ∀ (n k : Nat), choose n k ≤ 2 ^ n
  | 0, 0 => Nat.le_refl _
  | 0, _ + 1 => Nat.zero_le _
  | n + 1, 0 => by rw [choose_zero]; exact Nat.one_le_two_pow
  | n + 1, k + 1 => by
    have := choose_le n k
    have := choose_le n (k + 1)
    rw [choose_step, Nat.pow_succ]
    omega
theorem many_le (t : BT) : many t ≤ fact t.size := by
  rw [← many_hooks]
  exact Nat.le_mul_of_pos_right _ (hooks_pos t)
end Cart

namespace Cart
theorem fit_head {l r : BT} {E x y : List Nat} {e : Nat} (hs : E.Pairwise (· < ·)) (hp : (x ++ e :: y).Perm E) (hlt : ∀ z ∈ x, e < z) (hle : ∀ z ∈ y, e ≤ z) : E = e :: E.tail ∧ (x ++ y).Perm E.tail ∧ E.tail.Pairwise (· < ·) := by
  cases E with
  | nil =>
    have := hp.length_eq
    rw [List.length_append, List.length_cons] at this
    simp at this
  | cons e0 E =>
    obtain ⟨hmin, hs'⟩ := List.pairwise_cons.mp hs
    have ee : e = e0 := by
      have m1 : e ∈ e0 :: E := hp.mem_iff.mp (List.mem_append_right _ (List.mem_cons_self ..))
      have m2 : e0 ∈ x ++ e :: y := hp.mem_iff.mpr (List.mem_cons_self ..)
      have le1 : e0 ≤ e := by
        rcases List.mem_cons.mp m1 with q | q
        · exact Nat.le_of_eq q.symm
        · exact Nat.le_of_lt (hmin e q)
      rcases List.mem_append.mp m2 with q | q
      · have := hlt e0 q; omega
      · rcases List.mem_cons.mp q with q | q
        · exact q.symm
        · have := hle e0 q; omega
    subst ee
    exact ⟨rfl, List.Perm.cons_inv (List.perm_middle.symm.trans hp), hs'⟩
theorem onum_node {l r : BT} {E x y : List Nat} {e : Nat} (hx : x.length = l.size) : onum (.node l r) E (x ++ e :: y) = (pnum E.tail x l.size * many l + onum l (E.tail.filter (· ∈ x)) x) * many r + onum r (E.tail.filter (· ∉ x)) y := by
  have t1 : (x ++ e :: y).take l.size = x := by rw [← hx]; exact List.take_left ..
  have t2 : (x ++ e :: y).drop (l.size + 1) = y := by
    have : x ++ e :: y = (x ++ [e]) ++ y := by rw [List.append_assoc]; rfl
    rw [this, ← hx, show x.length + 1 = (x ++ [e]).length by rw [List.length_append]; rfl]
    exact List.drop_left ..
  show (pnum E.tail ((x ++ e :: y).take l.size) l.size * many l + onum l (E.tail.filter (· ∈ (x ++ e :: y).take l.size)) ((x ++ e :: y).take l.size)) * many r + onum r (E.tail.filter (· ∉ (x ++ e :: y).take l.size)) ((x ++ e :: y).drop (l.size + 1)) = _
  rw [t1, t2]
theorem choose_pos (a b : Nat) : 0 < choose (a + b) a := by
  rcases Nat.eq_zero_or_pos (choose (a + b) a) with z | z
  · have h := choose_fact a b
    rw [z, Nat.zero_mul] at h
    have := fact_pos (a + b)
    omega
  · exact z
theorem fact_mono : ∀ {a b : Nat}, a ≤ b → fact a ≤ fact b
  | a, 0, h => by have : a = 0 := by omega
                  subst this; exact Nat.le_refl _
  | a, b + 1, h => by
    by_cases c : a = b + 1
    · subst c; exact Nat.le_refl _
    · have := fact_mono (show a ≤ b by omega)
      have h2 : fact (b + 1) = (b + 1) * fact b := rfl
      have : 1 * fact b ≤ (b + 1) * fact b := Nat.mul_le_mul_right _ (by omega)
      omega
theorem fact_small' : ∀ n, n ≤ 40 → fact n < 2 ^ 160 := by decide +kernel
theorem many_small {t : BT} (h : t.size ≤ 40) : many t < 2 ^ 160 := Nat.lt_of_le_of_lt (many_le t) (fact_small' _ h)
theorem many_two {l r : BT} (h : l.size + r.size < 40) : many l * many r < 2 ^ 160 := by
  have h1 : many l * many r ≤ many (.node l r) := by
    show _ ≤ choose (l.size + r.size) l.size * (many l * many r)
    exact Nat.le_mul_of_pos_left _ (choose_pos _ _)
  exact Nat.lt_of_le_of_lt h1 (many_small (by show l.size + r.size + 1 ≤ 40; omega))
theorem choose_small {n k : Nat} (h : n ≤ 40) : choose n k ≤ 2 ^ 40 := Nat.le_trans (choose_le n k) (Nat.pow_le_pow_right (by decide) h)
theorem pnum_nil_of (E S : List Nat) : (E.filter (· ∈ S)).length = 0 → pnum E S 0 = 0 := by
  intro h
  have := (part_pnum E S 0 h.symm).1
  rw [choose_zero] at this
  omega
end Cart

namespace L2
open PySem
theorem forIn_yield_fold {α β : Type} {l : List α} {f : α → β → Sem (ForInStep β)} (g : α → β → β) (c : β) (h : ∀ x ∈ l, ∀ c, f x c = pure (.yield (g x c))) :
    forIn l c f = pure (l.foldl (fun c x => g x c) c) := by
  induction l generalizing c with
  | nil => rfl
  | cons x l ih =>
    rw [List.forIn_cons, h x List.mem_cons_self, pure_bind, List.foldl_cons]
    exact ih (g x c) fun y hy => h y (List.mem_cons_of_mem _ hy)
def capG (env : Env) (x : Str × NameKind) (c : List (Str × Addr)) : List (Str × Addr) := if (x.2 == NameKind.free) = true then (x.1, (env.cells.lookup x.1).getD 0) :: c else c
def capt (scope : Scope) (env : Env) : List (Str × Addr) := scope.names.foldl (fun c x => capG env x c) []
theorem closure_capt {scope : Scope} {env : Env} (h : ∀ n, (n, NameKind.free) ∈ scope.names → ∃ c, env.cells.lookup n = some c) : closureFor scope env = pure (capt scope env) := by
  simp only [closureFor]
  rw [forIn_yield_fold (capG env) [] (fun x hx c => ?_)]
  · rfl
  · obtain ⟨n, k⟩ := x
    by_cases hk : (k == NameKind.free) = true
    · have e : k = .free := by simpa using hk
      subst e
      obtain ⟨a, ha⟩ := h n hx
      simp [capG, cellOf, ha]
    · simp [capG, hk]
theorem capt_look {env : Env} : ∀ (names : List (Str × NameKind)) (acc : List (Str × Addr)) (n : Str) (c : Addr),
    (names.foldl (fun c x => capG env x c) acc).lookup n = some c → acc.lookup n = some c ∨ ((n, NameKind.free) ∈ names ∧ c = (env.cells.lookup n).getD 0)
  | [], acc, n, c, h => .inl h
  | (m, k) :: r, acc, n, c, h => by
    rcases capt_look r (capG env (m, k) acc) n c h with h | ⟨h1, h2⟩
    · by_cases hk : (k == NameKind.free) = true
      · have e : k = .free := by simpa using hk
        subst e
        have e2 : capG env (m, NameKind.free) acc = (m, (env.cells.lookup m).getD 0) :: acc := by simp [capG]
        rw [e2, List.lookup_cons] at h
        by_cases hn : (n == m) = true
        · have e3 : n = m := by simpa using hn
          subst e3
          rw [hn] at h
          exact .inr ⟨List.mem_cons_self, (Option.some.inj h).symm⟩
        · rw [Bool.eq_false_iff.mpr hn] at h
          exact .inl h
      · have e2 : capG env (m, k) acc = acc := by simp [capG, hk]
        rw [e2] at h
        exact .inl h
    · exact .inr ⟨List.mem_cons_of_mem _ h1, h2⟩
theorem capt_some {env : Env} : ∀ (names : List (Str × NameKind)) (acc : List (Str × Addr)) (n : Str), ((n, NameKind.free) ∈ names ∨ ∃ c, acc.lookup n = some c) →
    ∃ c, (names.foldl (fun c x => capG env x c) acc).lookup n = some c
  | [], acc, n, h => by
    rcases h with h | h
    · cases h
    · exact h
  | (m, k) :: r, acc, n, h => by
    refine capt_some r (capG env (m, k) acc) n ?_
    rcases h with h | ⟨c, h⟩
    · rcases List.mem_cons.mp h with e | h
      · cases e
        exact .inr ⟨_, by simp [capG] <;> rfl⟩
      · exact .inl h
    · right
      by_cases hk : (k == NameKind.free) = true
      · by_cases hn : (n == m) = true
        · exact ⟨_, by simp [capG, hk, List.lookup_cons, hn] <;> rfl⟩
        · exact ⟨c, by simp [capG, hk, List.lookup_cons, hn, h]⟩
      · exact ⟨c, by simp [capG, hk, h]⟩
theorem relabel_kind {env : Env} : ∀ (names : List (Str × NameKind)) (x : Str) (k : NameKind), (∀ y ∈ names, y.2 ≠ .cell) →
    (names.map fun (n, k) => if (k == NameKind.free && env.scope.kind == .function && env.kindOf n == some .cell) then (n, NameKind.cell) else (n, k)).lookup x = some k → (k = .cell ∨ k = .free) → (x, NameKind.free) ∈ names
  | [], x, k, _, h, _ => by simp at h
  | (n, kk) :: r, x, k, hn, h, hk => by
    have ih := relabel_kind (env := env) r x k (fun y hy => hn y (List.mem_cons_of_mem _ hy))
    rw [List.map_cons] at h
    by_cases hx : (x == n) = true
    · have e3 : x = n := by simpa using hx
      subst e3
      by_cases hc : (kk == NameKind.free && env.scope.kind == .function && env.kindOf x == some .cell) = true
      · have e : kk = .free := by
          have := hc
          simp at this
          exact this.1.1
        subst e
        exact List.mem_cons_self
      · dsimp only at h
        rw [if_neg hc, List.lookup_cons, hx] at h
        have e : kk = k := Option.some.inj h
        subst e
        rcases hk with e | e
        · exact absurd e (hn (x, kk) List.mem_cons_self)
        · subst e
          exact List.mem_cons_self
    · refine List.mem_cons_of_mem _ (ih ?_ hk)
      dsimp only at h
      by_cases hc : (kk == NameKind.free && env.scope.kind == .function && env.kindOf n == some .cell) = true
      · rw [if_pos hc, List.lookup_cons, Bool.eq_false_iff.mpr hx] at h
        exact h
      · rw [if_neg hc, List.lookup_cons, Bool.eq_false_iff.mpr hx] at h
        exact h
theorem relabel_free {env : Env} : ∀ (names : List (Str × NameKind)) (x : Str), names.lookup x = some .free →
    (names.map fun (n, k) => if (k == NameKind.free && env.scope.kind == .function && env.kindOf n == some .cell) then (n, NameKind.cell) else (n, k)).lookup x = some .cell ∨
    (names.map fun (n, k) => if (k == NameKind.free && env.scope.kind == .function && env.kindOf n == some .cell) then (n, NameKind.cell) else (n, k)).lookup x = some .free
  | [], x, h => by simp at h
  | (n, kk) :: r, x, h => by
    have ih := relabel_free (env := env) r x
    rw [List.map_cons]
    dsimp only
    rw [List.lookup_cons] at h
    by_cases hx : (x == n) = true
    · rw [hx] at h
      have e : kk = .free := Option.some.inj h
      subst e
      by_cases hc : (NameKind.free == NameKind.free && env.scope.kind == .function && env.kindOf n == some .cell) = true
      · rw [if_pos hc, List.lookup_cons, hx]
        exact .inl rfl
      · rw [if_neg hc, List.lookup_cons, hx]
        exact .inr rfl
    · rw [Bool.eq_false_iff.mpr hx] at h
      by_cases hc : (kk == NameKind.free && env.scope.kind == .function && env.kindOf n == some .cell) = true
      · rw [if_pos hc, List.lookup_cons, Bool.eq_false_iff.mpr hx]
        exact ih h
      · rw [if_neg hc, List.lookup_cons, Bool.eq_false_iff.mpr hx]
        exact ih h
end L2

namespace L2
open PySem PySem.Spec PyProof.Rows
section
variable {X : Cx}
def rInsert : V → List V → Hp → VK → Prop := fun x vs H Q => ∃ l xs i y, x = .ref l ∧ vs = [.int i, y] ∧ H l = some (.lst xs) ∧ 0 ≤ i ∧ i ≤ (xs.length : Int) ∧ xs.length < sizeLine ∧ Q .non (upd H l (.lst (xs.take i.toNat ++ y :: xs.drop i.toNat)))
theorem Vals.ins {xs : List V} {us : List Value} {y : V} {u : Value} (h : Vals xs us) (r : RelV y u) (k : Nat) : Vals (xs.take k ++ y :: xs.drop k) (us.take k ++ u :: us.drop k) :=
  (h.take k).append (.cons r (h.drop k))
theorem mt_insert : MtM X "list.insert" rInsert := by
  intro pins s σ H x vs v us Q I rx rv h
  obtain ⟨l, xs, i, y, rfl, rfl, hH, h0, hi, hz, q⟩ := h
  cases rx
  obtain ⟨u, w', rfl, ru, rw'⟩ := rv.two
  obtain ⟨t, rfl⟩ := ru
  obtain ⟨z, its, n, r, hl, e⟩ := I.lstM hH
  have hn := line63
  have hf : Builtin.List.listFitsIndex i = true := fitsIndex_both (by omega) (by omega)
  refine call_meets F.slot_list_insert ⟨_, e, rfl⟩ F.entry_list_insert (F.args_list_insert_3 _ _ _)
    (AutoSeq1.list_insert_list_int_val_1 l its.toArray n i t w' (by simp [hf]) (by rw [List.size_toArray]; omega)) ⟨e, ?_⟩
  refine ⟨.non, _, I.lset (its' := its.take i.toNat ++ w' :: its.drop i.toNat) hH e ?_ (r.ins rw' i.toNat) ?_, rfl, q⟩
  · show (its.toArray.extract 0 (if i < 0 then (i + (its.toArray.size : Int)).toNat else min i.toNat its.toArray.size)).push w' ++ its.toArray.extract (if i < 0 then (i + (its.toArray.size : Int)).toNat else min i.toNat its.toArray.size) = _
    rw [PySem.W.kl_ins_eq, List.size_toArray, if_neg (by omega), Nat.min_eq_left (by omega)]
  · rw [List.length_append, List.length_cons, List.length_take, List.length_drop]
    omega
def rGetL (K : PySem.W.Frag) : V → V → Hp → VK → Prop := fun o i H Q => ∃ p xs k v, o = .ref p ∧ i = .int k ∧ SqL K H p xs ∧ 0 ≤ k ∧ xs[k.toNat]? = some v ∧ Q v H
theorem get_list : PGet X (rGetL X.K) := by
  intro pins s σ H o i ov iv Q I ro ri h
  obtain ⟨p, xs, k, v, rfl, rfl, hq, h0, he, q⟩ := h
  cases ro
  obtain ⟨t, rfl⟩ := ri
  obtain ⟨its, r, pl, hz⟩ := I.list hq
  obtain ⟨w, ew, rw'⟩ := r.get he
  have hl := r.length
  have hn := line63
  have hlt : k.toNat < xs.length := (List.getElem?_eq_some_iff.mp he).1
  exact wpAny_getItem_list pl.isList h0 (by omega) (by simpa using ew) ⟨v, H, I, rw', q⟩
def eqLs (xs ys : List V) : Bool := decide (xs.length = ys.length) && (List.range xs.length).all fun j => eqV (xs.getD j .non) (ys.getD j .non)
theorem eqV_self {x : V} (h : flatV x = true) : eqV x x = true := by
  cases x <;> simp_all [flatV, eqV]
theorem eqLs_self {xs : List V} (h : xs.all flatV = true) : eqLs xs xs = true := by
  unfold eqLs
  rw [decide_eq_true rfl, Bool.true_and, List.all_eq_true]
  intro j hj
  have hj : j < xs.length := List.mem_range.mp hj
  have e : xs.getD j .non = xs[j] := by simp [List.getD, hj]
  rw [e]
  exact eqV_self (List.all_eq_true.mp h _ (List.getElem_mem hj))
theorem flat_ints (ns : List Int) : (ns.map V.int).all flatV = true := by
  rw [List.all_map, List.all_eq_true]; intro x _; rfl
theorem eqLs_ints (ns ms : List Int) : eqLs (ns.map V.int) (ms.map V.int) = decide (ns = ms) := by
  unfold eqLs
  by_cases h : ns = ms
  · subst h
    rw [decide_eq_true rfl, decide_eq_true (rfl : ns = ns), Bool.true_and, List.all_eq_true]
    intro j hj
    have hj : j < (ns.map V.int).length := List.mem_range.mp hj
    have e : (ns.map V.int).getD j .non = (ns.map V.int)[j] := by simp only [List.getD, List.getElem?_eq_getElem hj, Option.getD_some]
    rw [e]
    exact eqV_self (List.all_eq_true.mp (flat_ints ns) _ (List.getElem_mem hj))
  · rw [decide_eq_false h]
    by_cases hl : (ns.map V.int).length = (ms.map V.int).length
    · rw [decide_eq_true hl, Bool.true_and, Bool.eq_false_iff]
      intro ha
      apply h
      rw [List.length_map, List.length_map] at hl
      refine List.ext_getElem hl fun j h1 h2 => ?_
      have q := List.all_eq_true.mp ha j (List.mem_range.mpr (by rw [List.length_map]; exact h1))
      have e1 : (ns.map V.int).getD j .non = V.int ns[j] := by simp [List.getD, h1]
      have e2 : (ms.map V.int).getD j .non = V.int ms[j] := by simp [List.getD, h2]
      rw [e1, e2] at q
      exact eq_of_beq q
    · rw [decide_eq_false hl, Bool.false_and]
theorem seqEq_at {A : Around} {s : Shared} {xs ys : List V} {us ws : List Value} (r : Vals xs us) (r' : Vals ys ws) (f : xs.all flatV = true) (f' : ys.all flatV = true) :
    ∀ j (h1 : j < us.toArray.size) (h2 : j < ws.toArray.size), SeqAt.EqAt A s us.toArray[j] ws.toArray[j] (eqV (xs.getD j .non) (ys.getD j .non)) := by
  intro j h1 h2
  have l1 := r.length
  have l2 := r'.length
  have k1 : j < xs.length := by rw [l1]; simpa using h1
  have k2 : j < ys.length := by rw [l2]; simpa using h2
  have e1 : xs.getD j .non = xs[j] := by simp [List.getD, k1]
  have e2 : ys.getD j .non = ys[j] := by simp [List.getD, k2]
  obtain ⟨u, hu, ru⟩ := r.get (List.getElem?_eq_getElem k1)
  obtain ⟨w, hw, rw'⟩ := r'.get (List.getElem?_eq_getElem k2)
  have q1 : us.toArray[j] = u := by
    have : us[j]? = some us[j] := List.getElem?_eq_getElem (by rw [← l1]; exact k1)
    rw [this] at hu
    simpa using Option.some.inj hu
  have q2 : ws.toArray[j] = w := by
    have : ws[j]? = some ws[j] := List.getElem?_eq_getElem (by rw [← l2]; exact k2)
    rw [this] at hw
    simpa using Option.some.inj hw
  rw [e1, e2, q1, q2]
  exact eqAt_V ru rw' (List.all_eq_true.mp f _ (List.getElem_mem k1)) (List.all_eq_true.mp f' _ (List.getElem_mem k2))
def rSqEq (K : PySem.W.Frag) : R2 := fun x y H Q => ∃ a b xs ys, x = .ref a ∧ y = .ref b ∧ ((SqL K H a xs ∧ SqL K H b ys) ∨ (SqT K H a xs ∧ SqT K H b ys)) ∧ xs.all flatV = true ∧ ys.all flatV = true ∧ Q (.bl (eqLs xs ys)) H
def rSqNe (K : PySem.W.Frag) : R2 := fun x y H Q => ∃ a b xs ys, x = .ref a ∧ y = .ref b ∧ ((SqL K H a xs ∧ SqL K H b ys) ∨ (SqT K H a xs ∧ SqT K H b ys)) ∧ xs.all flatV = true ∧ ys.all flatV = true ∧ Q (.bl (!eqLs xs ys)) H
theorem eqLs_len {xs ys : List V} (h : xs.length = ys.length) : (List.range xs.length).all (fun j => eqV (xs.getD j .non) (ys.getD j .non)) = eqLs xs ys := by
  unfold eqLs
  rw [decide_eq_true h, Bool.true_and]
theorem eqLs_nlen {xs ys : List V} (h : ¬ xs.length = ys.length) : eqLs xs ys = false := by
  unfold eqLs
  rw [decide_eq_false h, Bool.false_and]
theorem eqLs_tup {xs ys : List V} : ((List.range (min xs.length ys.length)).all (fun j => eqV (xs.getD j .non) (ys.getD j .non)) && xs.length == ys.length) = eqLs xs ys := by
  by_cases h : xs.length = ys.length
  · rw [h, Nat.min_self, beq_self_eq_true, Bool.and_true, ← h]
    exact eqLs_len h
  · rw [eqLs_nlen h, beq_eq_false_iff_ne.mpr h, Bool.and_false]
theorem op_eqS (hu : X.A.units < cLine) : OpR X (compareOp .Eq) (rSqEq X.K) := by
  intro pins s σ H x y v u Q I rx ry h
  obtain ⟨a, b, xs, ys, rfl, rfl, hq, f, f', q⟩ := h
  cases rx
  cases ry
  rcases hq with ⟨h1, h2⟩ | ⟨h1, h2⟩
  · obtain ⟨its, r, pl, hz⟩ := I.list h1
    obtain ⟨its', r', pl', hz'⟩ := I.list h2
    have l1 := r.length
    have l2 := r'.length
    by_cases hl : xs.length = ys.length
    · refine SeqAt.eq_listAt pl.isList pl'.isList (by simp only [List.size_toArray]; omega) hu (seqEq_at r r' f f') ?_
      refine fin_bl I q ?_
      rw [List.size_toArray, ← l1]
      exact (eqLs_len hl).symm
    · refine SeqAt.eq_list_lengthsAt pl.isList pl'.isList (by simp only [List.size_toArray, bne_iff_ne, ne_eq]; omega) hu ?_
      exact fin_bl I q (eqLs_nlen hl)
  · obtain ⟨its, r, pl, hz⟩ := I.tuple h1
    obtain ⟨its', r', pl', hz'⟩ := I.tuple h2
    have l1 := r.length
    have l2 := r'.length
    refine SeqAt.eq_tupleAt pl pl' hu (seqEq_at r r' f f') ?_
    refine fin_bl I q ?_
    rw [List.size_toArray, List.size_toArray, ← l1, ← l2]
    exact eqLs_tup.symm
theorem op_neS (hu : X.A.units < cLine) : OpR X (compareOp .NotEq) (rSqNe X.K) := by
  intro pins s σ H x y v u Q I rx ry h
  obtain ⟨a, b, xs, ys, rfl, rfl, hq, f, f', q⟩ := h
  cases rx
  cases ry
  rcases hq with ⟨h1, h2⟩ | ⟨h1, h2⟩
  · obtain ⟨its, r, pl, hz⟩ := I.list h1
    obtain ⟨its', r', pl', hz'⟩ := I.list h2
    have l1 := r.length
    have l2 := r'.length
    by_cases hl : xs.length = ys.length
    · refine SeqAt.RcNeAt.lists pl.isList pl'.isList (by simp only [List.size_toArray]; omega) hu (seqEq_at r r' f f') _ _ _ _ ?_
      refine fin_bl I q ?_
      rw [List.size_toArray, ← l1]
      exact congrArg (!·) (eqLs_len hl).symm
    · refine SeqAt.RcNeAt.lists_lengths pl.isList pl'.isList (by simp only [List.size_toArray, bne_iff_ne, ne_eq]; omega) hu _ _ _ _ ?_
      exact fin_bl I q (by rw [eqLs_nlen hl] <;> rfl)
  · obtain ⟨its, r, pl, hz⟩ := I.tuple h1
    obtain ⟨its', r', pl', hz'⟩ := I.tuple h2
    have l1 := r.length
    have l2 := r'.length
    refine SeqAt.RcNeAt.tuples pl pl' hu (seqEq_at r r' f f') _ _ _ _ ?_
    refine fin_bl I q ?_
    rw [List.size_toArray, List.size_toArray, ← l1, ← l2]
    exact congrArg (!·) eqLs_tup.symm
def rIsi (K : PySem.W.Frag) : List V → Hp → VK → Prop := fun xs H Q => ∃ x n t b, xs = [x, .ty n] ∧ TyOf K H x t ∧ PySem.W.kitOne K t (.type n) = some b ∧ Q (.bl b) H
theorem call_isi : CallR X (.builtin "isinstance") (rIsi X.K) := by
  intro pins s σ H xs us Q I r h
  obtain ⟨x, n, t, b, rfl, ty, e, q⟩ := h
  obtain ⟨u, w', rfl, ru, rw'⟩ := vals2 r
  cases (show w' = Value.type n from rw')
  exact isinst_ok I ru ty e fun tk => ⟨.bl b, H, I.tok tk, rfl, q⟩
theorem ints_kept {s : Shared} {ns : List Int} {its : List Value} (hi : IntsAre its ns) : ∃ xs : Array (Int × Tok), its.toArray = intItems xs ∧ ns = xs.toList.map (·.1) := by
  obtain ⟨xs, e⟩ := hi.allInts.items
  exact ⟨xs, e, by rw [← hi.numsOf, ← nums_intItems, ← e]⟩
def rMinL (K : PySem.W.Frag) : List V → Hp → VK → Prop := fun xs H Q => ∃ (p : Addr) (ns : List Int), xs = [.ref p] ∧ SqL K H p (ns.map V.int) ∧ 0 < ns.length ∧ ∀ m, m ∈ ns → (∀ a ∈ ns, m ≤ a) → Q (.int m) H
theorem call_minL (hc : X.calm = true) : CallR X (.builtin "min") (rMinL X.K) := by
  intro pins s σ H xs us Q I r h
  obtain ⟨p, ns, rfl, hq, hne, q⟩ := h
  obtain ⟨u, rfl, rx⟩ := vals1 r
  cases rx
  obtain ⟨its, r', pl, hz⟩ := I.list hq
  obtain ⟨ys, e, hns⟩ := ints_kept (s := s) (intsAre_of r')
  have hsz : 0 < ys.size := by
    have h3 := hne; rw [hns, List.length_map, Array.length_toList] at h3; exact h3
  refine min_intList (I.ok.hd hc) (e ▸ pl.isList) hsz fun v h' tk hv hk => ?_
  obtain ⟨t, rfl⟩ := intItems_at hv
  obtain ⟨h1, h2⟩ := argBest_lt (numAt ys) (ys.size - 1)
  refine ⟨.int (numAt ys (argBest _ (ys.size - 1))), H, I.kept hk, ⟨t, rfl⟩, q _ ?_ fun a ha => ?_⟩
  · rw [hns, numAt_eq]; exact PySem.getD_mem (by rw [List.length_map, Array.length_toList]; omega)
  · rw [hns] at ha
    obtain ⟨j, hj, rfl⟩ := PySem.mem_getD ha
    rw [List.length_map, Array.length_toList] at hj
    rw [← numAt_eq]; exact h2 j (by omega)
def rMaxL (K : PySem.W.Frag) : List V → Hp → VK → Prop := fun xs H Q => ∃ (p : Addr) (ns : List Int), xs = [.ref p] ∧ SqL K H p (ns.map V.int) ∧ 0 < ns.length ∧ ∀ m, m ∈ ns → (∀ a ∈ ns, a ≤ m) → Q (.int m) H
theorem call_maxL (hc : X.calm = true) : CallR X (.builtin "max") (rMaxL X.K) := by
  intro pins s σ H xs us Q I r h
  obtain ⟨p, ns, rfl, hq, hne, q⟩ := h
  obtain ⟨u, rfl, rx⟩ := vals1 r
  cases rx
  obtain ⟨its, r', pl, hz⟩ := I.list hq
  obtain ⟨ys, e, hns⟩ := ints_kept (s := s) (intsAre_of r')
  have hsz : 0 < ys.size := by
    have h3 := hne; rw [hns, List.length_map, Array.length_toList] at h3; exact h3
  refine max_intList (I.ok.hd hc) (e ▸ pl.isList) hsz fun v h' tk hv hk => ?_
  obtain ⟨t, rfl⟩ := intItems_at hv
  obtain ⟨h1, h2⟩ := argBest_gt (numAt ys) (ys.size - 1)
  refine ⟨.int (numAt ys (argBest _ (ys.size - 1))), H, I.kept hk, ⟨t, rfl⟩, q _ ?_ fun a ha => ?_⟩
  · rw [hns, numAt_eq]; exact PySem.getD_mem (by rw [List.length_map, Array.length_toList]; omega)
  · rw [hns] at ha
    obtain ⟨j, hj, rfl⟩ := PySem.mem_getD ha
    rw [List.length_map, Array.length_toList] at hj
    rw [← numAt_eq]; exact h2 j (by omega)
def rSumL (K : PySem.W.Frag) : List V → Hp → VK → Prop := fun xs H Q => ∃ (p : Addr) (ns : List Int), xs = [.ref p] ∧ SqL K H p (ns.map V.int) ∧ Q (.int ns.sum) H
theorem call_sumL (hc : X.calm = true) : CallR X (.builtin "sum") (rSumL X.K) := by
  intro pins s σ H xs us Q I r h
  obtain ⟨p, ns, rfl, hq, q⟩ := h
  obtain ⟨u, rfl, rx⟩ := vals1 r
  cases rx
  obtain ⟨its, r', pl, hz⟩ := I.list hq
  obtain ⟨ys, e, hns⟩ := ints_kept (s := s) (intsAre_of r')
  refine sum_intListG (I.ok.hd hc) (e ▸ pl.isList) fun h' tk t' hk => ?_
  refine ⟨.int ns.sum, H, I.kept hk, ⟨t', ?_⟩, q⟩
  rw [preSum_eq, List.take_of_length_le (by simp), hns]
def rIndexL : V → List V → Hp → VK → Prop := fun x vs H Q => ∃ (l : Addr) (ns : List Int) (k : Int), x = .ref l ∧ vs = [.int k] ∧ H l = some (.lst (ns.map V.int)) ∧ k ∈ ns ∧ Q (.int (ns.idxOf k : Nat)) H
theorem mt_index : MtM X "list.index" rIndexL := by
  intro pins s σ H x vs v us Q I rx rv h
  obtain ⟨l, ns, k, rfl, rfl, hH, hk, q⟩ := h
  cases rx
  obtain ⟨u, rfl, ru⟩ := rv.one
  obtain ⟨t, rfl⟩ := ru
  obtain ⟨z, its, n, r, hl, e⟩ := I.lstM hH
  have hi := intsAre_of r
  have hlen := hi.length
  have hj : ns.idxOf k < ns.length := List.idxOf_lt_length_iff.mpr hk
  have hn := line63
  rw [List.length_map] at z
  refine call_meets F.slot_list_index ⟨_, e, rfl⟩ F.entry_list_index (F.args_list_index_2 _ _)
    (SeqAt.list_indexAt l its.toArray n none #[] (.int k t) (isInt k) (ns.idxOf k) (by simpa [hlen] using hj) (by omega) ?_ ?_) ⟨e, fun y hy => (eq_isInt k t hi y (by simpa using hy)).at _ _, ?_⟩
  · show isInt k its[ns.idxOf k] = true
    rw [isInt_at k hi _ (by omega) hj]
    simpa using List.getElem_idxOf hj
  · intro j hjs hlt
    show isInt k its[j] = false
    rw [isInt_at k hi j (by simpa using hjs) (by omega)]
    exact ne_of_lt_idxOf hlt _
  · exact ⟨.int (ns.idxOf k : Nat), H, I.tok _, ⟨_, rfl⟩, q⟩
end
section
variable {X : Cx} {a b c d : Expr} {ta tb tc td : TE} {pos : Pos}
def tChain3 (r r' r'' : R2) (ta tb tc td : TE) : TE := fun σ H Q => ta σ H fun x H1 => tb σ H1 fun y H2 => r x y H2 fun z H3 => ∃ k, z = .bl k ∧
  (if k = true then tc σ H3 fun w' H4 => r' y w' H4 fun z' H5 => ∃ k', z' = .bl k' ∧ (if k' = true then td σ H5 fun w2 H6 => r'' w' w2 H6 Q else Q (.bl false) H5) else Q (.bl false) H3)
theorem pt_chain3 {op op' op'' : CmpOp} {r r' r'' : R2} (ho : OpR X (compareOp op) r) (ho' : OpR X (compareOp op') r') (ho'' : OpR X (compareOp op'') r'') (ha : PE X a ta) (hb : PE X b tb) (hc : PE X c tc) (hd : PE X d td)
    (hm : lastMarks [op, op', op''] [b, c, d] = false := by with_unfolding_all rfl) : PT X (.Compare a [op, op', op''] [b, c, d] pos) (tTest (tChain3 r r' r'' ta tb tc td)) := by
  intro pins s σ H Q I h
  refine isTrue_chain (thn (ha pins s σ H _ I h) fun v s1 ⟨x, H1, I1, r1, q1⟩ => test_link (thn (hb pins s1 σ H1 _ I1 q1) fun u s2 ⟨y, H2, I2, r2, q2⟩ =>
    thn (ho pins s2 σ H2 x y v u _ I2 r1 r2 q2) fun d s3 ⟨z, H3, I3, r3, k, e, q3⟩ => ?_)) hm
  subst e
  cases r3
  refine wpAny_truthy_bool ?_
  cases k with
  | false =>
    obtain ⟨k', e', q'⟩ := q3
    cases e'
    exact ite_ff ⟨H3, I3, q'⟩
  | true =>
    refine ite_tt (test_link (thn (hc pins s3 σ H3 _ I3 q3) fun w' s4 ⟨z', H4, I4, r4, q4⟩ => thn (ho' pins s4 σ H4 y z' u w' _ I4 r2 r4 q4) fun d' s5 ⟨z2, H5, I5, r5, k2, e2, q5⟩ => ?_))
    subst e2
    cases r5
    refine wpAny_truthy_bool ?_
    cases k2 with
    | false =>
      obtain ⟨k', e', q'⟩ := q5
      cases e'
      exact ite_ff ⟨H5, I5, q'⟩
    | true =>
      refine ite_tt (test_last (thn (hd pins s5 σ H5 _ I5 q5) fun w2 s6 ⟨z6, H6, I6, r6, q6⟩ => thn (ho'' pins s6 σ H6 z' z6 w' w2 _ I6 r4 r6 q6) fun d'' s7 ⟨z7, H7, I7, r7, k7, e7, q7⟩ => ?_))
      subst e7
      cases r7
      exact wpAny_truthy_bool ⟨H7, I7, q7⟩
end
def Itd (lo : Int) (n : Nat) : It := ⟨fun i _ => i < n, fun i H x H' => H' = H ∧ x = .int (lo - i), fun i _ => n ≤ i⟩
theorem turn_down {P : Program} {w : World} {K : PySem.W.Frag} {tg : Expr} (it : Addr) (lo : Int) (n : Nat) : Turn P w K tg (Itd lo n) [it] it (fun i h => IsRangeIter h it (lo + (i : Nat) * (-1)) ((n : Int) - (i : Nat)) (-1)) where
  mem := by simp
  obj := fun i h st b hb => by
    have e : b = it := by simpa using hb
    subst e
    exact ⟨_, st, fun v z => by
      have z' : Data.fields _ = Data.cell v := z
      cases z'⟩
  keep := fun i h h' st k => k it (by simp) _ st
  item := by
    intro X hP hw hK hc i pins s σ H E I hf st hg
    subst hP hw hK
    obtain ⟨f0, f1, f2, f3, f4, f5⟩ := hf it (by simp)
    have W := Walks.range (prog := X.prog) (w := X.w) (I.ok.hd hc) it lo (-1) n
    refine W.item i s _ _ hg st fun v h' tk hv st' kk => ?_
    obtain ⟨t, rfl⟩ := hv
    have I1 : Inv X pins σ H { s with heap := h', toks := tk } := I.turned (fun b o hb e => kk b o (by simpa using hb) e) f0 f1 f3 f4 f5
    refine ⟨_, rfl, go_of (s := { s with heap := h', toks := tk }) (n := "range_iterator") st' rfl rfl (by decide) ⟨.int (lo - i), H, I1, ⟨t, ?_⟩, ⟨rfl, rfl⟩, st', fun b hb => (hf b hb).1⟩⟩
    have e : lo + (i : Int) * (-1) = lo - i := by omega
    rw [e]
  done := by
    intro X hP hw hK hc i pins s σ H E I hf st hg
    subst hP hw hK
    obtain ⟨f0, f1, f2, f3, f4, f5⟩ := hf it (by simp)
    exact wpAny_pyNext_range_end (I.ok.hd hc) st (by have : n ≤ i := hg; omega) fun h' eb => ⟨rfl, I.turned (t' := s.toks) (fun b o hb e => eb b o hb e) f0 f1 f3 f4 f5⟩
  self := fun _ _ _ _ _ st h => wpAny_pyIter_rangeiter st h
section
variable {X : Cx} {tg : Expr}
theorem range_itD {pins : List (Addr × Obj)} {σ : St} {H : Hp} {s : Shared} {R : It → Hp → Prop} {E : Value → Shared → Prop} {lo hi : Int} {t u v : Tok} {tk : Nat} (I : Inv X pins σ H s) (h1 : -(2 ^ 62) ≤ lo) (h2 : lo < 2 ^ 62) (h3 : -(2 ^ 62) ≤ hi) (h4 : hi < 2 ^ 62)
    (q : R (Itd lo (lo - hi).toNat) H) : wpAny (model X.prog X.w) X.A (pyIter (.ref s.heap.objs.size)) (PIE X pins σ tg R) E { s with heap := s.heap.push { cls := .type "range", data := .fields #[.int lo t, .int hi u, .int (-1) v] }, toks := tk } := by
  refine wpAny_pyIter_range (IsRange.new ..) (PySem.W.small_down h1 h2 h3 h4) ?_
  have I1 : Inv X pins σ H { s with heap := s.heap.push { cls := .type "range", data := .fields #[.int lo t, .int hi u, .int (-1) v] }, toks := tk } := I.kept fun b o e => Heap.get?_push_of_some _ e
  refine ⟨(s.heap.push { cls := .type "range", data := .fields #[.int lo t, .int hi u, .int (-1) v] }).objs.size, [(s.heap.push { cls := .type "range", data := .fields #[.int lo t, .int hi u, .int (-1) v] }).objs.size], _, _, H, rfl,
    I1.kept (t' := tk) fun b o e => Heap.get?_push_of_some _ e, turn_down _ lo (lo - hi).toNat, ?_, fun b hb => ?_, q⟩
  · have e1 : lo + ((0 : Nat) : Int) * (-1) = lo := by simp
    have e2 : (((lo - hi).toNat : Nat) : Int) - ((0 : Nat) : Int) = Builtin.Range.rangeSize lo hi (-1) := by rw [PySem.W.rangeSize_downNat]; omega
    show IsRangeIter _ _ (lo + ((0 : Nat) : Int) * (-1)) ((((lo - hi).toNat : Nat) : Int) - ((0 : Nat) : Int)) (-1)
    rw [e1, e2]
    exact Heap.get?_push_size _ rfl
  · have e : b = (s.heap.push { cls := .type "range", data := .fields #[.int lo t, .int hi u, .int (-1) v] }).objs.size := by simpa using hb
    subst e
    exact I1.fpOk (Nat.le_refl _) (I1.hok.fresh (Nat.le_refl _))
def iRng3 (ta : TA) : TI := fun σ H R => ta σ H fun vs H1 => ∃ i j : Int, vs = [.int i, .int j, .int (-1)] ∧ (-(2 ^ 62) ≤ i ∧ i < 2 ^ 62 ∧ -(2 ^ 62) ≤ j ∧ j < 2 ^ 62) ∧ R (Itd i (i - j).toNat) H1
theorem pi_range3 {a b c : Expr} {ta : TA} {p pos : Pos} (hg : Gl X "range") (hm : X.mg "range" = none) (ha : PA X [a, b, c] ta) (hs : starEach [a, b, c] X.env = [(false, eval a X.env), (false, eval b X.env), (false, eval c X.env)] := by rfl) (hs2 : starEach [b, c] X.env = [(false, eval b X.env), (false, eval c X.env)] := by rfl) :
    PI X tg (.Call (.Name "range" p) [a, b, c] [] pos) (iRng3 ta) := by
  intro pins s σ H R I h
  refine Call_ (ld_blt I hg hm boot_range (PyProof.Rows.callWith_type1 (thn (ha pos pins s σ H _ I h) fun us s1 ⟨vs, H1, I1, r1, q1⟩ => ?_) (by rw [hs, hs2]) (by rw [hs2]; rfl)))
  obtain ⟨i, j, e, ⟨q1, q2, q3, q4⟩, q⟩ := q1
  subst e
  cases r1 with
  | cons r rr =>
    cases rr with
    | cons r' rr =>
      cases rr with
      | cons r'' rr =>
        cases rr
        obtain ⟨t, rfl⟩ := r
        obtain ⟨t', rfl⟩ := r'
        obtain ⟨t'', rfl⟩ := r''
        exact call_range_3 (by decide) (range_itD I1 q1 q2 q3 q4 q) (Or.inl (PyProof.noPylong_small (by omega)))
theorem for_down {lo : Int} {n : Nat} {g : TG} {tb : TS} {D : Ends} {σ : St} {H : Hp} (Pv : Nat → St → Hp → Prop) (h0 : Pv 0 σ H)
    (hs : ∀ i σ H, i < n → Pv i σ H → g (.int (lo - i)) σ H fun σ2 H2 => tb { D with nx := Pv (i + 1), ct := Pv (i + 1), bk := D.nx } σ2 H2) (hd : ∀ σ H, Pv n σ H → D.nx σ H) :
    ∃ W : Nat → Nat → St → Hp → Prop, (∃ m, W 0 m σ H) ∧ ∀ i m σ H, W i m σ H →
      ((Itd lo n).stop i H ∧ D.nx σ H) ∨ ((Itd lo n).go i H ∧ ∃ N : St → Hp → Prop, (∀ σ' H', N σ' H' → ∃ m', m' < m ∧ W (i + 1) m' σ' H') ∧ ∀ x H', (Itd lo n).yld i H x H' → g x σ H' fun σ2 H2 => tb { D with nx := N, ct := N, bk := D.nx } σ2 H2) := by
  refine ⟨fun i m σ H => i ≤ n ∧ m = n - i ∧ Pv i σ H, ⟨n, Nat.zero_le _, rfl, h0⟩, fun i m σ H ⟨hi, hm, hp⟩ => ?_⟩
  by_cases h : i < n
  · refine .inr ⟨h, Pv (i + 1), fun σ' H' hp' => ⟨n - (i + 1), by omega, by omega, rfl, hp'⟩, fun x H' hy => ?_⟩
    obtain ⟨e1, e2⟩ := hy
    subst e1
    subst e2
    exact hs i σ H' h hp
  · have e : i = n := by omega
    subst e
    exact .inl ⟨Nat.le_refl _, hd σ H hp⟩
end
end L2

namespace L2
open PySem PySem.Spec PyProof.Rows
section
variable {prog : Program} {w : World} {A : Around} {R : Result → Shared → Prop} {s : Shared}
theorem compLoop_own {elt target iter : Expr} {ifs : List Expr} {scope : Scope} {pos : Pos} {it acc : Value} {env : Env} (I : Nat → Shared → Prop)
    (turn : ∀ n s, I n s → wpAny (model prog w) A (pyNext it) (fun r s₁ => match r with
      | none => R (.ok .next) s₁
      | some v => wpAny (model prog w) A (letOwnedTupleGo target it v) (fun _ s₁' => wpAny (model prog w) A (assign target env v) (fun _ s₂ =>
          wpAny (model prog w) A (forIn ifs true fun c r => if r = true then do let ok ← isTrue c env (eval c env); pure (ForInStep.yield ok) else pure (ForInStep.yield r)) (fun ok s₃ =>
            if ok = true then wpAny (model prog w) A (eval elt env) (fun x s₄ =>
              wpAny (model prog w) A (call (.builtin "list.append") [acc, x]) (fun _ s₅ => ∃ m, m < n ∧ I m s₅) (notedBy (model prog w) A env fun e s' => R (.error e) s') s₄) (notedBy (model prog w) A env fun e s' => R (.error e) s') s₃
            else ∃ m, m < n ∧ I m s₃) (notedBy (model prog w) A env fun e s' => R (.error e) s') s₂) (notedBy (model prog w) A env fun e s' => R (.error e) s') s₁') (notedBy (model prog w) A env fun e s' => R (.error e) s') s₁) (notedBy (model prog w) A env fun e s' => R (.error e) s') s)
    (n : Nat) (h : I n s) :
    codeAny (model prog w) A (.compLoop (.ListComp elt [⟨target, iter, ifs, 0⟩] scope pos) 0 it acc env) R s := by
  refine codeAny_loop rfl I (fun n s hI => ?_) n h
  show wpAny _ A ((compTurn (.ListComp elt [⟨target, iter, ifs, 0⟩] scope pos) 0 it acc env).onRaise (fun x => do noteFrame x env; theTreesLotGoes x)) _ _ s
  refine wpAny_noted ?_
  rw [compTurn_list]
  refine wpAny_bind (wpAny_standAt (wpAny_bind (wpAny_mono (turn n s hI) (fun r s₁ h₁ => ?_) fun _ _ h' => h')))
  cases r with
  | none => exact wpAny_pure h₁
  | some v =>
    refine wpAny_bind (wpAny_mono h₁ (fun _ s₁' h₁' => ?_) fun _ _ h' => h')
    refine wpAny_bind (wpAny_mono h₁' (fun _ s₂ h₂ => wpAny_bind (wpAny_mono h₂ (fun ok s₃ h₃ => ?_) fun _ _ h' => h')) fun _ _ h' => h')
    cases ok with
    | false => exact wpAny_pure ⟨rfl, h₃⟩
    | true =>
      exact wpAny_bind (wpAny_bind (wpAny_mono h₃ (fun x s₄ h₄ => wpAny_bind (wpAny_mono h₄ (fun _ s₅ h₅ => wpAny_pure (wpAny_pure ⟨rfl, h₅⟩)) fun _ _ h' => h')) fun _ _ h' => h'))
end
def cxC (X : Cx) (scope : Scope) (N : List Str) (s : Shared) (H : Hp) (C : Addr) (ex : List Addr) : Cx :=
  { X with N := N, s₀ := s, H₀ := H, env := compEnvC scope (capt scope X.env) C X.env, outer := X.stack, stack := X.stack, ex := ex, fn := fun _ => false, pn := [], xe := fun _ _ => False }
def compOk (scope : Scope) (env : Env) (x : Str) (ys : List Str) : Bool :=
  scope.kind == .function && scope.names.all (fun y => y.2 != .cell && (y.2 != .local || scope.names.lookup y.1 == some .local) && (y.2 != .free || (env.kindOf y.1 == some .cell || env.kindOf y.1 == some .free))) &&
    scope.names.lookup x == some .local && ys.all (fun y => scope.names.lookup y == some .free)
structure CompOk (scope : Scope) (env : Env) (x : Str) (ys : List Str) : Prop where
  kind : scope.kind = .function
  cell : ∀ y ∈ scope.names, y.2 ≠ .cell
  names : ∀ y ∈ scope.names, y.2 = .local → scope.names.lookup y.1 = some .local
  free : ∀ n, (n, NameKind.free) ∈ scope.names → env.kindOf n = some .cell ∨ env.kindOf n = some .free
  own : scope.names.lookup x = some .local
  caps : ∀ y ∈ ys, scope.names.lookup y = some .free
theorem compOk_of {scope : Scope} {env : Env} {x : Str} {ys : List Str} (h : compOk scope env x ys = true) : CompOk scope env x ys := by
  unfold compOk at h
  simp only [Bool.and_eq_true, List.all_eq_true, beq_iff_eq, bne_iff_ne, Bool.or_eq_true] at h
  obtain ⟨⟨⟨h1, h2⟩, h3⟩, h4⟩ := h
  refine ⟨h1, fun y hy => (h2 y hy).1.1, fun y hy e => ?_, fun n hn => ?_, h3, h4⟩
  · rcases (h2 y hy).1.2 with z | z
    · exact absurd e z
    · exact z
  · rcases (h2 _ hn).2 with z | z
    · exact absurd rfl z
    · exact z
theorem mem_of_lookupF : ∀ {names : List (Str × NameKind)} {y : Str} {k : NameKind}, names.lookup y = some k → (y, k) ∈ names
  | [], _, _, h => by simp at h
  | (n, kk) :: r, y, k, h => by
    rw [List.lookup_cons] at h
    by_cases hx : (y == n) = true
    · rw [hx] at h
      have e : y = n := by simpa using hx
      have e2 : kk = k := Option.some.inj h
      subst e e2
      exact List.mem_cons_self
    · rw [Bool.eq_false_iff.mpr hx] at h
      exact List.mem_cons_of_mem _ (mem_of_lookupF h)
def capσ (σ : St) (js : List Nat) : St := js.map fun j => (σ[j]?).getD none
def PTs (X : Cx) (ifs : List Expr) (t : TT) : Prop :=
  ∀ (pins : List (Addr × Obj)) (s : Shared) (σ : St) (H : Hp) (Q : Bool → Hp → Prop), Inv X pins σ H s → t σ H Q →
    wpAny (model X.prog X.w) X.A (forIn ifs true fun c r => if r = true then do let ok ← isTrue c X.env (eval c X.env); pure (ForInStep.yield ok) else pure (ForInStep.yield r)) (TP X pins σ Q) X.xe s
def tTrue : TT := fun _ H Q => Q true H
theorem pts_nil {X : Cx} : PTs X [] tTrue := fun _ _ _ H _ I h => wpAny_tests_nil ⟨H, I, h⟩
theorem pts_one {X : Cx} {c : Expr} {t : TT} (h : PT X c t) : PTs X [c] t := fun pins s σ H Q I q => wpAny_tests_one (h pins s σ H Q I q)
def tCompF (J : It) (tt : TT) (te : TE) (τ : St) (H1 : Hp) (Q : VK) : Prop := ∀ D, H1 D = none → ∃ W : Nat → Nat → Hp → Prop, (∃ m, W 0 m (upd H1 D (.lst []))) ∧ ∀ i m H, W i m H →
  (J.stop i H ∧ Q (.ref D) H) ∨ (J.go i H ∧ ∀ x H', J.yld i H x H' → tt (some x :: τ) H' fun b H2 =>
    if b = true then te (some x :: τ) H2 fun v H3 => ∃ ys m', H3 D = some (.lst ys) ∧ ys.length < sizeLine ∧ m' < m ∧ W (i + 1) m' (upd H3 D (.lst (ys ++ [v])))
    else ∃ m', m' < m ∧ W (i + 1) m' H2)
def tComp (wi : TI) (tt : TT) (te : TE) (js : List Nat) : TE := fun σ H Q => wi σ H fun J H1 => tCompF J tt te (capσ σ js) H1 Q
section
variable {X : Cx}
structure AfterC (X : Cx) (pins : List (Addr × Obj)) (H : Hp) (s : Shared) (C : Addr) : Prop where
  free : H C = none
  ns : ∃ m, s.heap.Ns C m
  ne : C ≠ X.env.locals
  ab : X.s₀.heap.objs.size ≤ C
  cells : ∀ x c, X.env.cells.lookup x = some c → c ≠ C
  pins : ∀ p ∈ X.pn ++ pins, p.1 ≠ C
theorem comp_block {elt iter : Expr} {x : Str} {px pos : Pos} {ifs : List Expr} {scope : Scope} {ys : List Str} {js : List Nat} {tt : TT} {te : TE}
    (hk : CompOk scope X.env x ys) (hnd : (x :: ys).Nodup) (hjs : js.map (fun j => X.N[j]?) = ys.map some) (hc : X.calm = true)
    (ht : ∀ s H C ex, PTs (cxC X scope (x :: ys) s H C ex) ifs tt) (he : ∀ s H C ex, PE (cxC X scope (x :: ys) s H C ex) elt te)
    {pins : List (Addr × Obj)} {s2 : Shared} {σ : St} {H2 : Hp} {it : Addr} {fp : List Addr} {tn : Nat → Heap → Prop} {J : It} (I2 : Inv X pins σ H2 s2) (T : Turn X.prog X.w X.K (.Name x px) J fp it tn) (st : tn 0 s2.heap)
    (fpo : ∀ b ∈ fp, FpOk X pins H2 b) {Q : VK} (h : tCompF J tt te (capσ σ js) H2 Q) {RR : Value → Addr → Result → Shared → Prop} {E : Value → Shared → Prop}
    (hRR : ∀ D C s' H', Inv X pins σ H' s' → AfterC X pins H' s' C → Q (.ref D) H' → RR (.ref D) C (.ok .next) s') :
    wpAny (model X.prog X.w) X.A (newList []) (fun acc s₃ => wpAny (model X.prog X.w) X.A (newFunctionEnv scope X.env.globals (capt scope X.env) [] X.env.qual none .none (some X.env)) (fun cenv s₄ =>
      codeAny (model X.prog X.w) X.A (.compStart (.ListComp elt [⟨.Name x px, iter, ifs, 0⟩] scope pos) 0 (.ref it) acc { cenv with scope := relabel scope X.env }) (RR acc cenv.locals) s₄) E s₃) E s2 := by
  refine wpAny_newObj_type (wpAny_newFunctionEnv hk.cell (by intro y hy; simp at hy) (fun h₁ hns₁ hsb₁ => ?_) hk.kind)
  dsimp only at hns₁ hsb₁ ⊢
  have hD2 : H2 s2.heap.objs.size = none := I2.fresh
  obtain ⟨W, ⟨m0, w0⟩, turn⟩ := h s2.heap.objs.size hD2
  have I3 : Inv X pins σ (upd H2 s2.heap.objs.size (.lst [])) { s2 with heap := s2.heap.push { cls := .type "list", data := .seq ([] : List Value).toArray } } := I2.lnew (t' := s2.toks) (ys := []) (its := []) .nil (Nat.zero_le _)
  generalize hs3 : ({ s2 with heap := s2.heap.push { cls := .type "list", data := .seq ([] : List Value).toArray } } : Shared) = s3 at I3
  have hs3h : s3.heap = s2.heap.push { cls := .type "list", data := .seq ([] : List Value).toArray } := by rw [← hs3]
  generalize hH3 : upd H2 s2.heap.objs.size (.lst []) = H3 at I3 w0
  have e3 : s2.heap.push { cls := .type "list", dict := none, data := .seq ([] : List Value).toArray } = s3.heap := hs3h.symm
  rw [e3] at hns₁ hsb₁ ⊢
  have old : ∀ b o, s3.heap.get? b = some o → h₁.get? b = some o := fun b o e => hsb₁.extBut b o (Nat.ne_of_lt (Heap.lt_size e)) (Heap.get?_push_of_some _ e)
  have old2 : ∀ b o, s2.heap.get? b = some o → s3.heap.get? b = some o := fun b o e => by rw [hs3h]; exact Heap.get?_push_of_some _ e
  have fps : ∀ b ∈ fp, ∃ o, s2.heap.get? b = some o ∧ ∀ v, o.data ≠ .cell v := T.obj _ _ st
  have fpC : ∀ b ∈ fp, b ≠ s3.heap.objs.size := fun b hb => by
    obtain ⟨o, e, _⟩ := fps b hb
    exact Nat.ne_of_lt (Heap.lt_size (old2 b o e))
  have capEnv : ∀ n c, (capt scope X.env).lookup n = some c → (n, NameKind.free) ∈ scope.names ∧ X.env.cells.lookup n = some c := fun n c e => by
    rcases capt_look scope.names [] n c e with z | ⟨z1, z2⟩
    · simp at z
    · obtain ⟨c', hc'⟩ := I2.ok.has n (hk.free n z1)
      rw [hc'] at z2
      exact ⟨z1, by rw [z2]; exact hc'⟩
  have I3s := I3.stkSub
  have ok' : (cxC X scope (x :: ys) s3 H3 s3.heap.objs.size fp).Ok := by
    refine ⟨I3.ok.mod, hk.kind, I3.ok.glob, I3.ok.blt, Nat.le_refl _, ?_, ?_, ?_, I3.ok.hd, I3.ok.frames, .inl rfl, ?_, I3.bs, ?_, ?_, ?_, I3.stack, I3.stkFree⟩
    · intro a b c ha hb
      exact I3.ok.inj a b c (capEnv a c ha).2 (capEnv b c hb).2
    · intro a ha
      have hm : (a, NameKind.free) ∈ scope.names := by
        rcases ha with z | z
        · exact relabel_kind scope.names a .cell hk.cell z (.inl rfl)
        · exact relabel_kind scope.names a .free hk.cell z (.inr rfl)
      exact capt_some scope.names [] a (.inl hm)
    · intro a c z
      cases z
    · intro b hb
      exact ⟨fpC b hb, fun a c e => (fpo b hb).2.2.2.2.1 a c (capEnv a c e).2⟩
    · exact Nat.le_trans I3.ok.bsz I3.sz
    · intro b o e hb
      rcases (fpo b hb).2.2.2.1 with z | z
      · exact I3.ok.noex b o e z
      · exact absurd (Nat.lt_of_lt_of_le (Heap.lt_size (I3.ok.bs b o e).1) z) (Nat.lt_irrefl _)
    · intro b hb z
      rcases List.mem_cons.mp (I3s b z) with q | q
      · exact (fpo b hb).2.1 q
      · exact (fpo b hb).2.2.1 q
  have hlen : (capσ σ js).length = ys.length := by
    have := congrArg List.length hjs
    rw [List.length_map, List.length_map] at this
    unfold capσ
    rw [List.length_map]
    exact this
  have I4 : ∀ t', Inv (cxC X scope (x :: ys) s3 H3 s3.heap.objs.size fp) [] (none :: capσ σ js) H3 { s3 with heap := h₁, toks := t' } := fun t' => by
    refine ⟨ok', rfl, I3.bare, Un.kept old, ⟨_, hns₁, fun i y v e1 e2 e3 => ?_⟩, fun a c e => ?_, ?_, fun a c e => I3.freeC a c (capEnv a c e).2, fun p hp => ?_, I3.hok.kept old, ?_⟩
    · cases i with
      | zero => simp at e2
      | succ i =>
        have e1 : ys[i]? = some y := e1
        have e2 : (capσ σ js)[i]? = some (some v) := e2
        have hi : i < ys.length := (List.getElem?_eq_some_iff.mp e1).1
        have hy : y ∈ ys := List.mem_of_getElem? e1
        unfold capσ at e2
        rw [List.getElem?_map] at e2
        cases hj : js[i]? with
        | none => rw [hj] at e2; cases e2
        | some j =>
          rw [hj] at e2
          have e2 : (σ[j]?).getD none = some v := Option.some.inj e2
          have e4 : σ[j]? = some (some v) := by
            cases hq : σ[j]? with
            | none => rw [hq] at e2; cases e2
            | some q => rw [hq] at e2; exact congrArg some e2
          have e5 : X.N[j]? = some y := by
            have q1 : (js.map (fun j => X.N[j]?))[i]? = some (X.N[j]?) := by rw [List.getElem?_map, hj]; rfl
            rw [hjs, List.getElem?_map, e1] at q1
            exact (Option.some.inj q1).symm
          have hfree := hk.caps y hy
          have hkd := hk.free y (mem_of_lookupF hfree)
          obtain ⟨m, hn, hl⟩ := I3.loc
          obtain ⟨u, ru, lk⟩ := hl j y v e5 e4 (by
            rcases hkd with z | z
            · exact .inr (.inl z)
            · exact .inr (.inr z))
          refine ⟨u, ru, ?_⟩
          rcases lk with ⟨k1, _⟩ | ⟨_, c, e6, z⟩
          · rcases hkd with q | q <;> rw [q] at k1 <;> cases k1
          · right
            refine ⟨relabel_free scope.names y hfree, c, ?_, ?_⟩
            · obtain ⟨c', hc'⟩ := capt_some (env := X.env) scope.names [] y (.inl (mem_of_lookupF hfree))
              have := (capEnv y c' hc').2
              rw [e6] at this
              have e7 : c = c' := Option.some.inj this
              rw [e7]
              exact hc'
            · obtain ⟨o, ho, hd⟩ := z
              exact ⟨o, old c o ho, hd⟩
    · obtain ⟨v, o, ho, hd⟩ := I3.cell a c (capEnv a c e).2
      exact ⟨v, o, old c o ho, hd⟩
    · exact I3.hok.fresh (Nat.le_refl _)
    · cases hp
    · show (capσ σ js).length + 1 = ys.length + 1
      rw [hlen]
  have stat : ∀ {H' : Hp}, (∀ b ∈ fp, H' b = none) → ∀ b ∈ fp, FpOk (cxC X scope (x :: ys) s3 H3 s3.heap.objs.size fp) [] H' b := fun hn b hb =>
    ⟨hn b hb, (ok'.exf b hb).1, ok'.exfs b hb, .inl hb, fun a c e => (ok'.exf b hb).2 a c e, fun p hp => (by cases hp)⟩
  have fr0 : ∀ b ∈ fp, H3 b = none := fun b hb => by
    obtain ⟨o, e, _⟩ := fps b hb
    rw [← hH3, upd_ne (Nat.ne_of_lt (Heap.lt_size e))]
    exact (fpo b hb).1
  have loop : ∀ t', codeAny (model X.prog X.w) X.A (.compLoop (.ListComp elt [⟨.Name x px, iter, ifs, 0⟩] scope pos) 0 (.ref it) (.ref s2.heap.objs.size) (compEnvC scope (capt scope X.env) s3.heap.objs.size X.env))
      (RR (.ref s2.heap.objs.size) s3.heap.objs.size) { s2 with heap := h₁, toks := t' } := fun t' => by
    rw [show ({ s2 with heap := h₁, toks := t' } : Shared) = { s3 with heap := h₁, toks := t' } by rw [← hs3]]
    refine compLoop_own (fun n s' => ∃ i v H', Inv (cxC X scope (x :: ys) s3 H3 s3.heap.objs.size fp) [] (v :: capσ σ js) H' s' ∧ tn i s'.heap ∧ (∀ b ∈ fp, H' b = none) ∧ W i n H') ?_ m0
      ⟨0, none, H3, I4 t', T.keep _ _ _ st fun b hb o e => old b o (old2 b o e), fr0, w0⟩
    rintro n s5 ⟨i, v5, H5, I5, st5, fr5, w5⟩
    rcases turn i n H5 w5 with ⟨stop, qn⟩ | ⟨go, step⟩
    · refine thn (T.done (cxC X scope (x :: ys) s3 H3 s3.heap.objs.size fp) rfl rfl rfl hc i [] s5 _ H5 _ I5 (stat fr5) st5 stop) fun r s6 ⟨hr, I6⟩ => ?_
      subst hr
      refine hRR _ _ _ H5 (I3.call' (ch := fp) I6.os I6.base I6.hok I6.bare fun b hb => ⟨(fpo b hb).2.2.2.1, (fpo b hb).2.1, (fpo b hb).2.2.2.2.1, (fpo b hb).2.2.2.2.2⟩) ⟨I6.free, ?_, ?_, I3.sz, ?_, ?_⟩ qn
      · obtain ⟨m, hn, _⟩ := I6.loc
        exact ⟨m, hn⟩
      · exact Nat.ne_of_gt I3.lt
      · intro a c e
        obtain ⟨v, o, ho, hd⟩ := I3.cell a c e
        exact Nat.ne_of_lt (Heap.lt_size ho)
      · intro p hp
        exact Nat.ne_of_lt (Heap.lt_size (I3.pin p hp).1)
    · refine thn (T.item (cxC X scope (x :: ys) s3 H3 s3.heap.objs.size fp) rfl rfl rfl hc i [] s5 _ H5 _ I5 (stat fr5) st5 go) fun r s6 ⟨u, hr, h6⟩ => ?_
      subst hr
      refine thn h6 fun _ s7 ⟨xv, H7, I7, r7, y7, st7, fr7⟩ => ?_
      have I7' := I7.pinned (stat fr7) (T.obj _ _ st7)
      have pg : PG (cxC X scope (x :: ys) s3 H3 s3.heap.objs.size fp) (.Name x px) (gName 0) := pg_name hnd rfl (.inl (lookup_relabel_local hk.own)) (.inr (lookup_relabel_local hk.own))
      refine wpAny_mono (pg _ s7 _ H7 xv u (fun σ8 H8 => σ8 = some xv :: capσ σ js ∧ H8 = H7) I7' r7 ⟨rfl, rfl⟩) (fun _ s8 ⟨σ8, H8, I8, e8, e8'⟩ => ?_) fun _ _ f => f.elim
      subst e8
      subst e8'
      refine wpAny_mono (ht _ _ _ _ _ s8 _ _ _ I8 (step xv _ y7)) (fun ok s9 ⟨H9, I9, q9⟩ => ?_) fun _ _ f => f.elim
      have again : ∀ {σ' : St} {H' : Hp} {s' : Shared} {v' : Option V} {m' : Nat}, Inv (cxC X scope (x :: ys) s3 H3 s3.heap.objs.size fp) ([] ++ pinsAt fp s7.heap) (v' :: capσ σ js) H' s' → m' < n → W (i + 1) m' H' →
          ∃ m, m < n ∧ ∃ i v H', Inv (cxC X scope (x :: ys) s3 H3 s3.heap.objs.size fp) [] (v :: capσ σ js) H' s' ∧ tn i s'.heap ∧ (∀ b ∈ fp, H' b = none) ∧ W i m H' := fun {σ' H' s' v' m'} I' hm w' => by
        refine ⟨m', hm, i + 1, v', H', I'.unpinned, T.keep _ _ _ st7 fun b hb o e => (I'.pin (b, o) (List.mem_append_right _ (List.mem_append_right _ (mem_pinsAt hb e)))).1, fun b hb => ?_, w'⟩
        obtain ⟨o, e, d⟩ := T.obj _ _ st7 b hb
        exact (I'.pin (b, o) (List.mem_append_right _ (List.mem_append_right _ (mem_pinsAt hb e)))).2.1
      cases ok with
      | false =>
        rw [if_neg (by decide)] at q9
        rw [if_neg (by decide)]
        obtain ⟨m', hm, w'⟩ := q9
        exact again (σ' := []) I9 hm w'
      | true =>
        rw [if_pos rfl] at q9
        rw [if_pos rfl]
        refine wpAny_mono (he _ _ _ _ _ s9 _ _ _ I9 q9) (fun xe s10 ⟨v10, H10, I10, r10, q10⟩ => ?_) fun _ _ f => f.elim
        obtain ⟨zs, m', hD, hz, hm, w'⟩ := q10
        refine wpAny_mono (mt_append (X := cxC X scope (x :: ys) s3 H3 s3.heap.objs.size fp) _ s10 _ H10 (.ref s2.heap.objs.size) [v10] _ _ (fun _ H' => H' = upd H10 s2.heap.objs.size (.lst (zs ++ [v10]))) I10 rfl (.cons r10 .nil) ⟨_, zs, v10, rfl, rfl, hD, hz, rfl⟩)
          (fun _ s11 ⟨_, H11, I11, _, e11⟩ => ?_) fun _ _ f => f.elim
        subst e11
        exact again (σ' := []) I11 hm w'
  exact codeAny_compStart_list (loop _) (T.self _ 0 _ _ _ (T.keep _ _ _ st fun b hb o e => old b o (old2 b o e)) (loop _))
theorem AfterC.turn {pins : List (Addr × Obj)} {σ : St} {H : Hp} {s : Shared} {C : Addr} {h' : Heap} (I : Inv X pins σ H s) (a : AfterC X pins H s C) (hs : Heap.SameBut C s.heap h') : Inv X pins σ H { s with heap := h' } :=
  I.turned (t' := s.toks) (fun b o hb e => hs.extBut b o hb e) a.free a.ne (.inr a.ab) a.cells a.pins
theorem pe_comp {elt iter : Expr} {x : Str} {px pos : Pos} {ifs : List Expr} {scope : Scope} (ys : List Str) (js : List Nat) {wi : TI} {tt : TT} {te : TE}
    (hi : PI X (.Name x px) iter wi) (ht : ∀ s H C ex, PTs (cxC X scope (x :: ys) s H C ex) ifs tt) (he : ∀ s H C ex, PE (cxC X scope (x :: ys) s H C ex) elt te)
    (hk : compOk scope X.env x ys = true := by rfl) (hnd : (x :: ys).Nodup := by decide +kernel) (hjs : js.map (fun j => X.N[j]?) = ys.map some := by rfl) (hc : X.calm = true := by rfl)
    (hs : ∀ x, foldedSetIterable iter X.env x = pure x := by intro _; rfl) : PE X (.ListComp elt [⟨.Name x px, iter, ifs, 0⟩] scope pos) (tComp wi tt te js) := by
  intro pins s σ H Q I h
  have hk' := compOk_of hk
  rw [eval_ListComp]
  refine wpAny_comprehension_free (use := none) rfl hs (closure_capt fun n hn => I.ok.has n (hk'.free n hn)) hk'.kind hk'.names (thn (hi pins s σ H _ I h) fun v s1 h1 => thn h1 fun itv s2 h2 => ?_)
  obtain ⟨it, fp, tn, J, H2, e, I2, T, st2, f2, q⟩ := h2
  subst e
  refine comp_block (RR := fun acc C => compPost (model X.prog X.w) X.A X.xe none (EP X pins σ Q) acc C) hk' hnd hjs hc ht he I2 T st2 f2 q fun D C s' H' I' a q' => ?_
  obtain ⟨m, hn⟩ := a.ns
  exact ⟨m, hn, fun h' hs' => ⟨.ref D, H', a.turn I' hs', rfl, q'⟩⟩
theorem ps_setC {i : Nat} {y : Str} {py spos : Pos} {elt iter : Expr} {x : Str} {px pos : Pos} {ifs : List Expr} {scope : Scope} (ys : List Str) (js : List Nat) {wi : TI} {tt : TT} {te : TE}
    (hN : X.N.Nodup) (hy : X.N[i]? = some y) (hyl : X.env.scope.names.lookup y = some .local)
    (hi : PI X (.Name x px) iter wi) (ht : ∀ s H C ex, PTs (cxC X scope (x :: ys) s H C ex) ifs tt) (he : ∀ s H C ex, PE (cxC X scope (x :: ys) s H C ex) elt te)
    (hsw : swapsWith (.ListComp elt [⟨.Name x px, iter, ifs, 0⟩] scope pos) (some (.Name y py)) spos.line X.env = pure true := by rfl)
    (hk : compOk scope X.env x ys = true := by rfl) (hnd : (x :: ys).Nodup := by decide +kernel) (hjs : js.map (fun j => X.N[j]?) = ys.map some := by rfl) (hc : X.calm = true := by rfl)
    (hs : ∀ x, foldedSetIterable iter X.env x = pure x := by intro _; rfl) : PS X (.Assign [.Name y py] (.ListComp elt [⟨.Name x px, iter, ifs, 0⟩] scope pos) spos) (tAsg (tComp wi tt te js) (gName i)) := by
  intro pins s σ H D I h
  have hk' := compOk_of hk
  rw [exec_Assign_Name_used _ _ _ _ hsw]
  refine wpAny_bind (wpAny_standAt (wpAny_bind ?_))
  show wpAny _ X.A (do let _ ← comprehension (.ListComp elt [⟨.Name x px, iter, ifs, 0⟩] scope pos) scope X.env _ (newList []) false (eval iter X.env) (some (assign (.Name y py) X.env))) _ _ s
  refine wpAny_bind (wpAny_mono (wpAny_comprehension_free (use := some (assign (.Name y py) X.env)) (Q := fun _ s' => SP X pins D .next s') rfl hs (closure_capt fun n hn => I.ok.has n (hk'.free n hn)) hk'.kind hk'.names
    (thn (hi pins s σ H _ I h) fun v s1 h1 => thn h1 fun itv s2 h2 => ?_)) (fun _ s' hq => wpAny_pure (wpAny_pure hq)) fun _ _ e => e)
  obtain ⟨it, fp, tn, J, H2, e, I2, T, st2, f2, q⟩ := h2
  subst e
  refine comp_block (RR := fun acc C => compPost (model X.prog X.w) X.A X.xe (some (assign (.Name y py) X.env)) (fun _ s' => SP X pins D .next s') acc C) hk' hnd hjs hc ht he I2 T st2 f2 q fun Dl C s' H' I' a q' => ?_
  obtain ⟨m, hn⟩ := a.ns
  show wpAny _ X.A (assign (.Name y py) X.env (.ref Dl)) _ _ _
  refine wpAny_assign_Name (store_ok2 I' hN hy (.inl hyl) (show RelV (.ref Dl) (.ref Dl) from rfl) (fun s'' I'' hch => ?_) (.inr hyl))
  obtain ⟨a', hsb, ha'⟩ := hch
  have hne : C ≠ a' := by
    rcases ha' with z | z
    · rw [z]; exact a.ne
    · exact (a.cells y a' z).symm
  refine ⟨m, hn.sameBut hsb hne, fun h' hs' => ⟨_, H', ?_, q'⟩⟩
  exact AfterC.turn (C := C) I'' ⟨a.free, ⟨m, hn.sameBut hsb hne⟩, a.ne, a.ab, a.cells, a.pins⟩ hs'
end
end L2

namespace L2
open PySem PySem.Spec PyProof.Rows
structure Def (P : Program) (w : World) (K : PySem.W.Frag) (mg : Str → Option Value) (base : Heap) (k : Nat) (x : Str) (ps : List Str) (sp : Sp) : Prop where
  ex : ∃ (f : Addr) (fd : FuncData), FnOk P w K mg base CX0 k f fd ps sp ∧ mg x = some (.ref f) ∧ PySem.W.keepIn K (.ref f) = true ∧ Binds K fd ps []
structure DefM (P : Program) (w : World) (K : PySem.W.Frag) (mg : Str → Option Value) (base : Heap) (k : Nat) (C : Addr) (m : Str) (ps : List Str) (sp : Sp) : Prop where
  ex : ∃ (f : Addr) (fd : FuncData), FnOk P w K mg base CX0 k f fd ps sp ∧ Meth K C m f ∧ Binds K fd ps []
structure DefC (P : Program) (w : World) (K : PySem.W.Frag) (mg : Str → Option Value) (base : Heap) (k : Nat) (C : Addr) (x : Str) (ps : List Str) (sp : Sp) : Prop where
  ex : ∃ (f : Addr) (fd : FuncData), FnOk P w K mg base CX0 k f fd ps sp ∧ Mk K C f ∧ Binds K fd ps [] ∧ mg x = some (.ref C)
section
variable {X : Cx} {k : Nat} {x m : Str} {ps : List Str} {sp : Sp} {C : Addr} {e o : Expr} {es : List Expr} {t : TA} {ta : TE} {p pos apos : Pos}
theorem pe_def (D : Def X.prog X.w X.K X.mg X.base k x ps sp) (hr : Room k X.A) (ha : PA X (e :: es) t) (hg : Gl X x := by rfl) (hdb : (x == ("__debug__" : Str)) = false := by decide)
    (he : starEach (e :: es) X.env = (false, eval e X.env) :: starEach es X.env := by rfl) (hpl : (backTo pos (starEach es X.env)).any (·.1) = false := by rfl) :
    PE X (.Call (.Name x p) (e :: es) [] pos) (tCall sp [] E0 t) := by
  obtain ⟨f, fd, F, hm, hk, hb⟩ := D.ex
  exact pe_call F hr hg hm hk hb .nil pass0 ha hdb he hpl
theorem pe_defM {pl : Sem Bool} (D : DefM X.prog X.w X.K X.mg X.base k C m ps sp) (c : Cls X.K C) (hr : Room k X.A) (ho : PE X o ta) (ha : PA X (e :: es) t)
    (hst : starEach (e :: es) X.env = (false, eval e X.env) :: starEach es X.env := by rfl) (hpl : (backTo pos (starEach es X.env)).any (·.1) = false := by rfl)
    (ht : eval (.Call (.Attribute o m apos) (e :: es) [] pos) X.env = (do
      let ov ← eval o X.env
      standAt apos.atName
      let (f, first) ← holding [ov] (getMethod ov m pl)
      callWith pos f first (backTo pos (starEach (e :: es) X.env)) (backToKw pos (keywordEach [] X.env))) := by rfl) :
    PE X (.Call (.Attribute o m apos) (e :: es) [] pos) (tMeth C m sp [] E0 ta t) := by
  obtain ⟨f, fd, F, hm, hb⟩ := D.ex
  exact pe_meth ho c hm F hr hb .nil pass0 ha hst hpl ht
theorem pe_defM0 {pl : Sem Bool} (D : DefM X.prog X.w X.K X.mg X.base k C m ps sp) (c : Cls X.K C) (hr : Room k X.A) (ho : PE X o ta)
    (ht : eval (.Call (.Attribute o m apos) [] [] pos) X.env = (do
      let ov ← eval o X.env
      standAt apos.atName
      let (f, first) ← holding [ov] (getMethod ov m pl)
      callWith pos f first (backTo pos (starEach [] X.env)) (backToKw pos (keywordEach [] X.env))) := by rfl) :
    PE X (.Call (.Attribute o m apos) [] [] pos) (tMeth C m sp [] E0 ta tNil) := by
  obtain ⟨f, fd, F, hm, hb⟩ := D.ex
  exact pe_meth0 ho c hm F hr hb .nil pass0 ht
theorem pe_defC (D : DefC X.prog X.w X.K X.mg X.base k C x ps sp) (hr : Room (k + 1) X.A) (ha : PA X (e :: es) t) (hg : Gl X x := by rfl) (hdb : (x == ("__debug__" : Str)) = false := by decide)
    (he : starEach (e :: es) X.env = (false, eval e X.env) :: starEach es X.env := by rfl) (hpl : (backTo pos (starEach es X.env)).any (·.1) = false := by rfl) :
    PE X (.Call (.Name x p) (e :: es) [] pos) (tMake C sp [] E0 t) := by
  obtain ⟨f, fd, F, M, hb, hm⟩ := D.ex
  exact pe_make M F hr hg hm hb .nil pass0 ha hdb he hpl
end
section
variable {X : Cx} {K : PySem.W.Frag}
theorem ix_listK (h : X.K = K) : IxR X (rIxL K) := h ▸ ix_list
theorem ix_tupK (h : X.K = K) : IxR X (rIxT K) := h ▸ ix_tup
theorem op_inK (h : X.K = K) : OpR X (compareOp .In) (rIn K false) := h ▸ op_in_seq
theorem op_notInK (h : X.K = K) : OpR X (compareOp .NotIn) (rIn K true) := h ▸ op_notIn_seq
theorem pi_listK {tg l : Expr} {tl : TE} (h : X.K = K) (hl : PE X l tl) : PI X tg l (iList K tl) := h ▸ pi_list hl
theorem op_eqSK (h : X.K = K) (hu : X.A.units < cLine) : OpR X (compareOp .Eq) (rSqEq K) := h ▸ op_eqS hu
theorem call_lenK (h : X.K = K) : CallR X (.builtin "len") (fun xs H Q => ∃ p ys, xs = [.ref p] ∧ (SqL K H p ys ∨ SqT K H p ys) ∧ Q (.int ys.length) H) := h ▸ call_len_seq
end
theorem same_new {H : Hp} {p : Addr} (h : H p = none) (o : HO) : Same H (upd H p o) := fun b u q => by rw [upd_ne (ne_of_none q h)]; exact q
def But (d : Addr) (H H' : Hp) : Prop := ∀ b o, H b = some o → b ≠ d → H' b = some o
def But2 (d e : Addr) (H H' : Hp) : Prop := ∀ b o, H b = some o → b ≠ d → b ≠ e → H' b = some o
theorem But.upd {H : Hp} {d : Addr} {o : HO} : But d H (L2.upd H d o) := fun b u q hb => by rw [upd_ne hb]; exact q
theorem But.trans {d : Addr} {H H1 H2 : Hp} (a : But d H H1) (b : But d H1 H2) : But d H H2 := fun c o q h => b c o (a c o q h) h
theorem Same.but {d : Addr} {H H1 H2 : Hp} (a : Same H H1) (b : But d H1 H2) : But d H H2 := fun c o q h => b c o (a c o q) h
theorem But.same {d : Addr} {H H1 H2 : Hp} (a : But d H H1) (b : Same H1 H2) : But d H H2 := fun c o q h => b c o (a c o q h)
theorem But.new {d : Addr} {H H1 : Hp} (a : But d H H1) (h : H d = none) : Same H H1 := fun c o q => a c o q (ne_of_none q h)
theorem But2.refl {d e : Addr} {H : Hp} : But2 d e H H := fun _ _ q _ _ => q
theorem But2.trans {d e : Addr} {H H1 H2 : Hp} (a : But2 d e H H1) (b : But2 d e H1 H2) : But2 d e H H2 := fun c o q h h' => b c o (a c o q h h') h h'
theorem But2.same {d e : Addr} {H H1 H2 : Hp} (a : But2 d e H H1) (b : Same H1 H2) : But2 d e H H2 := fun c o q h h' => b c o (a c o q h h')
theorem Same.but2 {d e : Addr} {H H1 H2 : Hp} (a : Same H H1) (b : But2 d e H1 H2) : But2 d e H H2 := fun c o q h h' => b c o (a c o q) h h'
theorem But.l {d e : Addr} {H H1 : Hp} (a : But d H H1) : But2 d e H H1 := fun c o q h _ => a c o q h
theorem But.r {d e : Addr} {H H1 : Hp} (a : But e H H1) : But2 d e H H1 := fun c o q _ h => a c o q h
theorem small {n : Nat} (h : n ≤ 1000) : n ≤ sizeLine := Nat.le_of_lt (small1000 h)
def Scr (K : PySem.W.Frag) (H : Hp) (a : Addr) (ns : List Int) : Prop := (∃ o, H a = some (.frz o (.lst (ns.map V.int)))) ∨
  ∃ (o : Obj) (its : Array Value) (n : Nat), K.lookup a = some o ∧ o.cls = .type "list" ∧ o.dict = none ∧ o.data = .seq its n ∧ its.size ≤ sizeLine ∧ Vals (ns.map V.int) its.toList
theorem Scr.sq {K : PySem.W.Frag} {H : Hp} {a : Addr} {ns : List Int} (h : Scr K H a ns) : SqL K H a (ns.map V.int) := by
  rcases h with ⟨o, h⟩ | h
  · exact .inl (.inr ⟨o, h⟩)
  · exact .inr h
theorem Scr.of {K : PySem.W.Frag} {H : Hp} {a : Addr} {ns : List Int} (o : Only H) (h : SqL K H a (ns.map V.int)) : Scr K H a ns := by
  rcases h with h | h
  · rcases o a with q | ⟨ob, xs, q⟩
    · rcases h with h | ⟨ob, h⟩
      · rw [q] at h; cases h
      · rw [q] at h; cases h
    · rcases h with h | ⟨ob', h⟩
      · rw [q] at h; cases h
      · exact .inl ⟨ob', h⟩
  · exact .inr h
theorem Scr.same {K : PySem.W.Frag} {H H' : Hp} {a : Addr} {ns : List Int} (h : Scr K H a ns) (s : Same H H') : Scr K H' a ns := by
  rcases h with ⟨o, h⟩ | h
  · exact .inl ⟨o, s _ _ h⟩
  · exact .inr h
theorem Scr.but {K : PySem.W.Frag} {H H' : Hp} {a d : Addr} {ns : List Int} {xs : List V} (h : Scr K H a ns) (s : But d H H') (hd : H d = some (.lst xs)) : Scr K H' a ns := by
  rcases h with ⟨o, h⟩ | h
  · exact .inl ⟨o, s _ _ h (ne_of h hd (by intro z; cases z))⟩
  · exact .inr h
theorem Scr.but2 {K : PySem.W.Frag} {H H' : Hp} {a d e : Addr} {ns : List Int} {xs ys : List V} (h : Scr K H a ns) (s : But2 d e H H') (hd : H d = some (.lst xs)) (he : H e = some (.lst ys)) : Scr K H' a ns := by
  rcases h with ⟨o, h⟩ | h
  · exact .inl ⟨o, s _ _ h (ne_of h hd (by intro z; cases z)) (ne_of h he (by intro z; cases z))⟩
  · exact .inr h
theorem get_int {ns : List Int} {i : Nat} (h : i < ns.length) : (ns.map V.int)[i]? = some (.int (ns.getD i 0)) := by
  rw [List.getElem?_map, List.getElem?_eq_getElem h]
  simp [List.getD, h]
theorem atI_int {ns : List Int} {k : Int} (h0 : 0 ≤ k) (h : k < (ns.length : Int)) : atI (ns.map V.int) k = some (.int (ns.getD k.toNat 0)) := by
  have e : k = ((k.toNat : Nat) : Int) := by omega
  rw [e]
  exact atI_nat (get_int (by omega))
theorem ixN_int {n : Nat} {k : Int} (h0 : 0 ≤ k) (h : k < (n : Int)) : ixN n k = some k.toNat := by
  unfold ixN
  rw [if_pos h0, if_pos h]
theorem ixN_map {ns : List Int} {k : Int} (h0 : 0 ≤ k) (h : k < (ns.length : Int)) : ixN (ns.map V.int).length k = some k.toNat := by
  rw [List.length_map]
  exact ixN_int h0 h
theorem set_int (ns : List Int) (i : Nat) (z : Int) : (ns.map V.int).set i (.int z) = (ns.set i z).map V.int := by rw [List.map_set]
theorem ins_int (ns : List Int) (i : Nat) (z : Int) : (ns.map V.int).take i ++ V.int z :: (ns.map V.int).drop i = (ns.take i ++ z :: ns.drop i).map V.int := by
  rw [List.map_append, List.map_cons, List.map_take, List.map_drop]
theorem cut_lo (ns : List Int) {k : Int} (h0 : 0 ≤ k) (h : k ≤ (ns.length : Int)) : cutV (ns.map V.int) none (some k) = (ns.take k.toNat).map V.int := by
  have e : k = ((k.toNat : Nat) : Int) := by omega
  unfold cutV
  rw [e, HT.sIx_none, HT.sIx_nat, List.drop_zero, Nat.sub_zero, List.length_map, Nat.min_eq_left (by omega), List.map_take]
  rfl
theorem cut_hi (ns : List Int) {k : Int} (h0 : 0 ≤ k) (h : k ≤ (ns.length : Int)) : cutV (ns.map V.int) (some k) none = (ns.drop k.toNat).map V.int := by
  have e : k = ((k.toNat : Nat) : Int) := by omega
  unfold cutV
  rw [e, HT.sIx_none, HT.sIx_nat, List.length_map, Nat.min_eq_left (by omega), List.map_drop, List.take_of_length_le (by rw [List.length_drop, List.length_map]; exact Nat.le_refl _)]
  rfl
theorem cut_both (ns : List Int) {j k : Int} (h0 : 0 ≤ j) (h1 : j ≤ k) (h : k ≤ (ns.length : Int)) : cutV (ns.map V.int) (some j) (some k) = ((ns.drop j.toNat).take (k.toNat - j.toNat)).map V.int := by
  have e : k = ((k.toNat : Nat) : Int) := by omega
  have e' : j = ((j.toNat : Nat) : Int) := by omega
  unfold cutV
  rw [e, e', HT.sIx_nat, HT.sIx_nat, List.length_map, Nat.min_eq_left (by omega), Nat.min_eq_left (by omega), List.map_take, List.map_drop]
  rfl
theorem seqIndex_nn {n : Nat} {k : Int} (h0 : 0 ≤ k) (h : k < (n : Int)) : seqIndex? k n = some k.toNat := seqIndex_of h0 h
theorem int_of {ns : List Int} {i : Nat} {x : V} (h : (ns.map V.int)[i]? = some x) : ∃ z, x = V.int z := by
  rw [List.getElem?_map] at h
  cases e : ns[i]? with
  | none => rw [e] at h; cases h
  | some z => rw [e] at h; exact ⟨z, (Option.some.inj h).symm⟩
theorem cutV_ints (ns : List Int) (lo hi : Option Int) : ∃ ms : List Int, cutV (ns.map V.int) lo hi = ms.map V.int := by
  unfold cutV
  exact ⟨_, by rw [← List.map_drop, ← List.map_take]⟩
theorem ifElse {c : TT} {t u : TS} {D : Ends} {σ : St} {H : Hp} (hF : u D σ H) (h : u D σ H → tIfS c t u D σ H) : tIfS c t u D σ H := h hF
theorem seqIf {c : TT} {t r : TS} {D : Ends} {σ : St} {H : Hp} (hF : r D σ H) (h : r D σ H → tSeq (tIfS c t tNext) r D σ H) : tSeq (tIfS c t tNext) r D σ H := h hF
section
variable {tt : TT} {te : TE} {τ : St} {H1 : Hp} {Q : VK}
theorem comp_rangeG {lo : Int} {n : Nat} (keep : Nat → Bool) (val : Nat → V) (hn : n ≤ 1000)
    (ht : ∀ (i : Nat) (H : Hp) (Q' : Bool → Hp → Prop), i < n → Same H1 H → (∀ H', Same H H' → Q' (keep i) H') → tt (some (.int (lo + i)) :: τ) H Q')
    (he : ∀ (i : Nat) (H : Hp) (Q' : VK), i < n → keep i = true → Same H1 H → (∀ H', Same H H' → Q' (val i) H') → te (some (.int (lo + i)) :: τ) H Q')
    (q : ∀ D H', Same H1 H' → H1 D = none → H' D = some (.lst (((List.range n).filter keep).map val)) → Q (.ref D) H') : tCompF (Itr lo n) tt te τ H1 Q := by
  intro D hD
  refine ⟨fun i m H => i ≤ n ∧ m = n - i ∧ Same H1 H ∧ H D = some (.lst (((List.range i).filter keep).map val)), ⟨n, Nat.zero_le _, rfl, same_new hD _, upd_same⟩, ?_⟩
  rintro i m H ⟨hi, hm, s, e⟩
  have hlen : (((List.range i).filter keep).map val).length ≤ 1000 := by
    rw [List.length_map]
    have := List.length_filter_le keep (List.range i)
    rw [List.length_range] at this
    omega
  by_cases hlt : i < n
  · refine .inr ⟨hlt, fun x H' hy => ?_⟩
    obtain ⟨e1, e2⟩ := hy
    subst e1
    subst e2
    refine ht i H' _ hlt s fun H0 s0 => ?_
    cases hk : keep i with
    | true =>
      refine iteT ?_
      refine he i H0 _ hlt hk (s.trans s0) fun H2 s2 => ?_
      refine ⟨_, n - (i + 1), s2 _ _ (s0 _ _ e), small1000 hlen, by omega, by omega, rfl, fun b o z => ?_, ?_⟩
      · rw [upd_ne (ne_of_none z hD)]; exact s2 _ _ (s0 _ _ (s _ _ z))
      · rw [upd_same, List.range_succ, List.filter_append, List.map_append]
        simp [hk]
    | false =>
      refine iteF ?_
      refine ⟨n - (i + 1), by omega, by omega, rfl, s.trans s0, ?_⟩
      rw [s0 _ _ e, List.range_succ, List.filter_append, List.map_append]
      simp [hk]
  · have e3 : i = n := by omega
    subst e3
    exact .inl ⟨Nat.le_refl _, q D H s hD e⟩
theorem comp_range {lo : Int} {n : Nat} (keep : Nat → Bool) (val : Nat → V) (hn : n ≤ 1000)
    (ht : ∀ (i : Nat) (H : Hp) (Q' : Bool → Hp → Prop), i < n → Same H1 H → Q' (keep i) H → tt (some (.int (lo + i)) :: τ) H Q')
    (he : ∀ (i : Nat) (H : Hp) (Q' : VK), i < n → keep i = true → Same H1 H → (∀ H', Same H H' → Q' (val i) H') → te (some (.int (lo + i)) :: τ) H Q')
    (q : ∀ D H', Same H1 H' → H1 D = none → H' D = some (.lst (((List.range n).filter keep).map val)) → Q (.ref D) H') : tCompF (Itr lo n) tt te τ H1 Q :=
  comp_rangeG keep val hn (fun i H Q' hi s z => ht i H Q' hi s (z H (Same.refl H))) he q
theorem comp_listG {K : PySem.W.Frag} {a : Addr} {xs : List V} (keep : V → Bool) (val : V → V) (hn : xs.length ≤ 10000) (hl : SqL K H1 a xs)
    (ht : ∀ (x : V) (H : Hp) (Q' : Bool → Hp → Prop), x ∈ xs → Same H1 H → (∀ H', Same H H' → Q' (keep x) H') → tt (some x :: τ) H Q')
    (he : ∀ (x : V) (H : Hp) (Q' : VK), x ∈ xs → keep x = true → Same H1 H → (∀ H', Same H H' → Q' (val x) H') → te (some x :: τ) H Q')
    (q : ∀ D H', Same H1 H' → H1 D = none → H' D = some (.lst ((xs.filter keep).map val)) → Q (.ref D) H') : tCompF (Itl K a) tt te τ H1 Q := by
  intro D hD
  refine ⟨fun i m H => i ≤ xs.length ∧ m = xs.length - i ∧ Same H1 H ∧ H D = some (.lst (((xs.take i).filter keep).map val)), ⟨xs.length, Nat.zero_le _, rfl, same_new hD _, upd_same⟩, ?_⟩
  rintro i m H ⟨hi, hm, s, e⟩
  have hlen : (((xs.take i).filter keep).map val).length ≤ 10000 := by
    rw [List.length_map]
    have := List.length_filter_le keep (xs.take i)
    rw [List.length_take] at this
    omega
  by_cases hlt : i < xs.length
  · have hx : xs[i]? = some xs[i] := List.getElem?_eq_getElem hlt
    refine .inr ⟨⟨xs, xs[i], s.seq hl, hx⟩, fun x H' hy => ?_⟩
    obtain ⟨e1, e2⟩ := hy
    subst e1
    have e3 := e2 xs (s.seq hl)
    rw [hx] at e3
    have e4 : xs[i] = x := Option.some.inj e3
    have hm' : x ∈ xs := e4 ▸ List.getElem_mem hlt
    have tk : xs.take (i + 1) = xs.take i ++ [x] := by rw [List.take_succ, hx, e4]; rfl
    refine ht x H' _ hm' s fun H0 s0 => ?_
    cases hk : keep x with
    | true =>
      refine iteT ?_
      refine he x H0 _ hm' hk (s.trans s0) fun H2 s2 => ?_
      refine ⟨_, xs.length - (i + 1), s2 _ _ (s0 _ _ e), Nat.lt_of_le_of_lt hlen (by decide), by omega, by omega, rfl, fun b o z => ?_, ?_⟩
      · rw [upd_ne (ne_of_none z hD)]; exact s2 _ _ (s0 _ _ (s _ _ z))
      · rw [upd_same, tk, List.filter_append, List.map_append]
        simp [hk]
    | false =>
      refine iteF ?_
      refine ⟨xs.length - (i + 1), by omega, by omega, rfl, s.trans s0, ?_⟩
      rw [s0 _ _ e, tk, List.filter_append, List.map_append]
      simp [hk]
  · have e3 : i = xs.length := by omega
    subst e3
    rw [List.take_length] at e
    exact .inl ⟨⟨xs, s.seq hl, Nat.le_refl _⟩, q D H s hD e⟩
theorem comp_list {K : PySem.W.Frag} {a : Addr} {xs : List V} (keep : V → Bool) (val : V → V) (hn : xs.length ≤ 10000) (hl : SqL K H1 a xs)
    (ht : ∀ (x : V) (H : Hp) (Q' : Bool → Hp → Prop), x ∈ xs → Same H1 H → Q' (keep x) H → tt (some x :: τ) H Q')
    (he : ∀ (x : V) (H : Hp) (Q' : VK), x ∈ xs → keep x = true → Same H1 H → (∀ H', Same H H' → Q' (val x) H') → te (some x :: τ) H Q')
    (q : ∀ D H', Same H1 H' → H1 D = none → H' D = some (.lst ((xs.filter keep).map val)) → Q (.ref D) H') : tCompF (Itl K a) tt te τ H1 Q :=
  comp_listG keep val hn hl (fun x H Q' hx s z => ht x H Q' hx s (z H (Same.refl H))) he q
end
end L2

namespace L2
open PySem PySem.Spec PyProof.Rows
theorem boot_rev : bootBuiltins "reversed" = some (.type "reversed") := by decide +kernel
theorem sub_ri_rev : isSubtype (.type "range_iterator") (.type "reversed") = pure false := by
  rw [isSubtype_type]
  kernel_rfl
section
variable {prog : Program} {w : World} {A : Around} {E : Value → Shared → Prop} {s : Shared}
theorem revMeets (r : Addr) (a b : Int) (t u v : Tok) (hs : (Builtin.Range.rangeFitsLong a && Builtin.Range.rangeFitsLong b && Builtin.Range.rangeFitsLong 1 && Builtin.Range.rangeFitsLong (-1) && Builtin.Range.rangeFitsLong (a - 1) && Builtin.Range.rangeFitsLong (Builtin.Range.rangeSize a b 1)) = true) :
    Meets (Builtin.«range.__reversed__» ⟨[.ref r], []⟩) (fun _ R s => IsRange s.heap r a b 1 t u v ∧
      R (.ok (.ret (Value.ref s.heap.objs.size))) { s with heap := s.heap.push { cls := .type "range_iterator", data := .fields #[rawInt (a + (Builtin.Range.rangeSize a b 1 - 1) * 1), rawInt (Builtin.Range.rangeSize a b 1), rawInt (-1)] } }) :=
  .of_wp fun prog w A R s h => by
    obtain ⟨hp, g, d, tk, os⟩ := s
    obtain ⟨hl, h⟩ := h
    wp_walk
    simp only [hs, Bool.not_true, Bool.false_eq_true, if_false, if_true]
    wp_walk
    exact ⟨_, rfl, h⟩
abbrev RevOk (a b : Int) : Prop := (Builtin.Range.rangeFitsLong a && Builtin.Range.rangeFitsLong b && Builtin.Range.rangeFitsLong 1 && Builtin.Range.rangeFitsLong (-1) && Builtin.Range.rangeFitsLong (a - 1) && Builtin.Range.rangeFitsLong (Builtin.Range.rangeSize a b 1)) = true
abbrev revRI (a b : Int) : Obj := { cls := .type "range_iterator", data := .fields #[rawInt (a + (Builtin.Range.rangeSize a b 1 - 1) * 1), rawInt (Builtin.Range.rangeSize a b 1), rawInt (-1)] }
theorem newRev {r : Addr} {a b : Int} {t u v : Tok} {W : Value → Shared → Prop} (hr : IsRange s.heap r a b 1 t u v) (hs : RevOk a b) (h : W (.ref s.heap.objs.size) { s with heap := s.heap.push (revRI a b) }) :
    codeAny (model prog w) A (.call (.builtin "reversed.__new__") ⟨[.type "reversed", .ref r], []⟩) (wants W E) s := by
  have hT : s.TypeIs (.ref r) "range" := ⟨_, hr, rfl⟩
  refine codeAny_of_tree (show wpAny _ A.in1 (do checkBuiltinCall "reversed.__new__" ⟨[.type "reversed", .ref r], []⟩; again (.builtin "reversed.__new__" ⟨[.type "reversed", .ref r], []⟩)) _ _ s from ?_)
  refine wpAny_bind (wpAny_of_eq (PySem.F.newCall_reversed_1 (.ref r)) (wpAny_pure ⟨plainId_quiet PySem.F.plain_reversed_new _, codeAny_builtin PySem.F.entry_reversed_new ?_⟩))
  rw [Around.under_plainId PySem.F.plain_reversed_new]; unfold Builtin.«reversed.__new__»
  refine wpAny_bind (wpAny_of_eq (PySem.newClass_reversed (.ref r)) ?_); dsimp only
  refine wpAny_bind (wpAny_of_eq (a := ()) (by kernel_rfl) (wpAny_bind (wpAny_of_eq (a := ()) (by kernel_rfl) ?_)))
  try dsimp only
  refine wpAny_bind (wpAny_specialOf hT PySem.F.slot_range_reversed.lookup ?_); try dsimp only
  refine wpAny_bind (wpAny_of_eq (PySem.F.slot_range_reversed.bind (.ref r)) ?_); try dsimp only
  have hnn : ¬ ((Value.builtin "range.__reversed__" == Value.none) = true) := Bool.false_ne_true
  show wpAny _ _ (if (Value.builtin "range.__reversed__" == Value.none) = true then _ else _) _ _ _
  rw [if_neg hnn]
  refine wpAny_bind (wpAny_rule (wpAny_bind (m := runValue (.call (.builtin "range.__reversed__") ⟨[.ref r], []⟩)) (show wpAny _ _ (call (.builtin "range.__reversed__") [.ref r]) _ _ _ from ?_)))
  refine call_meets PySem.F.slot_range_reversed hT PySem.F.entry_range_reversed (PySem.F.args_range_reversed_1 (.ref r)) (revMeets r a b t u v hs) ⟨hr, ?_⟩
  first
  | exact wpAny_pure h
  | exact wpAny_bind (wpAny_pure (wpAny_pure h))
theorem call_revRange {r : Addr} {a b : Int} {t u v : Tok} {W : Value → Shared → Prop} (hr : IsRange s.heap r a b 1 t u v) (hs : RevOk a b) (h : W (.ref s.heap.objs.size) { s with heap := s.heap.push (revRI a b) }) :
    wpAny (model prog w) A (call (.type "reversed") [.ref r]) W E s := by
  refine callType_other (U := "range_iterator") (Q₁ := fun o s' => o = .ref s.heap.objs.size ∧ s' = { s with heap := s.heap.push (revRI a b) }) (by decide +kernel) PySem.F.create_reversed ⟨_, _, PySem.F.mro_reversed⟩ PySem.F.made_reversed sub_ri_rev (PySem.F.typeCall_reversed_1 (.ref r)) (newRev hr hs ⟨rfl, rfl⟩) ?_
  rintro o s' ⟨rfl, rfl⟩
  exact ⟨⟨_, Heap.get?_push_size _ rfl, rfl⟩, h⟩
end
theorem rs_up (i j : Int) : Builtin.Range.rangeSize i j 1 = ((j - i).toNat : Int) := by
  unfold Builtin.Range.rangeSize
  rw [if_pos (by decide)]
  split <;> omega
theorem revOk {i j : Int} (h1 : -(2 ^ 62) ≤ i) (h2 : i < 2 ^ 62) (h3 : -(2 ^ 62) ≤ j) (h4 : j < 2 ^ 62) : RevOk i j := by
  unfold RevOk
  rw [rs_up]
  simp only [Builtin.Range.rangeFitsLong, Bool.and_eq_true, decide_eq_true_eq]
  omega
section
variable {X : Cx} {tg : Expr}
def iRev (ta : TA) : TI := fun σ H R => ta σ H fun vs H1 => ∃ i j : Int, vs = [.int i, .int j] ∧ (-(2 ^ 62) ≤ i ∧ i < 2 ^ 62 ∧ -(2 ^ 62) ≤ j ∧ j < 2 ^ 62) ∧ R (Itd (i + ((j - i).toNat : Int) - 1) (j - i).toNat) H1
theorem pi_rev2 {a b : Expr} {ta : TA} {p p2 pos pos2 : Pos} (hg : Gl X "reversed") (hm : X.mg "reversed" = none) (hgr : Gl X "range") (hmr : X.mg "range" = none) (ha : PA X [a, b] ta)
    (hs : starEach [a, b] X.env = [(false, eval a X.env), (false, eval b X.env)] := by rfl) (hs2 : starEach [b] X.env = [(false, eval b X.env)] := by rfl)
    (hs3 : starEach [.Call (.Name "range" p2) [a, b] [] pos2] X.env = [(false, eval (.Call (.Name "range" p2) [a, b] [] pos2) X.env)] := by rfl) :
    PI X tg (.Call (.Name "reversed" p) [.Call (.Name "range" p2) [a, b] [] pos2] [] pos) (iRev ta) := by
  intro pins s σ H R I h
  refine Call_ (ld_blt I hg hm boot_rev (PyProof.Rows.callWith_type1 ?_ hs3 rfl))
  rw [hs3]
  show wpAny _ _ (spliced ((false, eval (.Call (.Name "range" p2) [a, b] [] pos2) X.env) :: backTo pos [])) _ _ s
  refine Calls.spliced_cons (Call_ (ld_blt I hgr hmr boot_range (PyProof.Rows.callWith_type1 (thn (ha pos2 pins s σ H _ I h) fun us s1 ⟨vs, H1, I1, r1, q1⟩ => ?_) (by rw [hs, hs2]) (by rw [hs2]; rfl))))
  obtain ⟨i, j, e, ⟨b1, b2, b3, b4⟩, q⟩ := q1
  subst e
  obtain ⟨u, u', rfl, ⟨t, rfl⟩, ⟨t', rfl⟩⟩ := vals2 r1
  refine call_range_2 (Calls.spliced_nil ?_)
  refine call_revRange (IsRange.new ..) (revOk b1 b2 b3 b4) ?_
  have I2 : Inv X pins σ H1 { s1 with heap := s1.heap.push { cls := .type "range", data := .fields #[.int i t, .int j t', .int 1 s1.toks] }, toks := s1.toks + 1 } := I1.kept fun c o z => Heap.get?_push_of_some _ z
  have I3 := I2.kept (h' := (s1.heap.push { cls := .type "range", data := .fields #[.int i t, .int j t', .int 1 s1.toks] }).push (revRI i j)) (t' := s1.toks + 1) fun c o z => Heap.get?_push_of_some _ z
  have st : IsRangeIter ((s1.heap.push { cls := .type "range", data := .fields #[.int i t, .int j t', .int 1 s1.toks] }).push (revRI i j)) (s1.heap.push { cls := .type "range", data := .fields #[.int i t, .int j t', .int 1 s1.toks] }).objs.size
      (i + ((j - i).toNat : Int) - 1 + ((0 : Nat) : Int) * (-1)) (((j - i).toNat : Int) - ((0 : Nat) : Int)) (-1) := by
    have e1 : i + ((j - i).toNat : Int) - 1 + ((0 : Nat) : Int) * (-1) = i + (Builtin.Range.rangeSize i j 1 - 1) * 1 := by rw [rs_up]; omega
    have e2 : ((j - i).toNat : Int) - ((0 : Nat) : Int) = Builtin.Range.rangeSize i j 1 := by rw [rs_up]; omega
    rw [e1, e2]
    exact Heap.get?_push_size _ rfl
  refine wpAny_pyIter_rangeiter st ⟨_, [_], _, _, H1, rfl, I3, turn_down _ (i + ((j - i).toNat : Int) - 1) (j - i).toNat, st, fun c hc => ?_, q⟩
  have ec : c = (s1.heap.push { cls := .type "range", data := .fields #[.int i t, .int j t', .int 1 s1.toks] }).objs.size := by simpa using hc
  subst ec
  exact I2.fpOk (Nat.le_refl _) (I2.hok.fresh (Nat.le_refl _))
end
theorem lri_len : typeLookup (.type "list_reverseiterator") "__len__" = pure none := by
  rw [typeLookup_type, builtinLookup_eq_fast]
  kernel_rfl
theorem lri_hint : typeLookup (.type "list_reverseiterator") "__length_hint__" = pure (some (.builtin "list_reverseiterator.__length_hint__")) := by
  rw [typeLookup_type, builtinLookup_eq_fast]
  kernel_rfl
section
variable {prog : Program} {w : World} {A : Around} {E : Value → Shared → Prop} {s : Shared}
theorem hint_lri {it l : Addr} {i : Int} {W : Bool → Shared → Prop} (hi : s.heap.IsRevIter it l i) (h : W false s) : wpAny (model prog w) A (Builtin.List.listLengthHint (.ref it)) W E s := by
  unfold Builtin.List.listLengthHint
  refine wpAny_bind (wpAny_specialOf hi.typeIs lri_len ?_)
  show wpAny _ A (specialOf (Value.ref it) (Str.ofString "__length_hint__") >>= _) _ _ _
  refine wpAny_bind (wpAny_specialOf hi.typeIs lri_hint ?_)
  generalize hid : ("list_reverseiterator.__length_hint__" : String) = nm
  wp_delta
  rw [show splitId nm = some ("list_reverseiterator", "__length_hint__") from by subst hid; decide +kernel]
  subst hid
  refine wpAny_bind (wpAny_isInstance (T := "list_reverseiterator") (b := true) hi.typeIs (by rw [isSubtype_type]; kernel_rfl) ?_)
  refine wpAny_ite_split (fun z => absurd z (by decide)) fun _ => ?_
  refine wpAny_ite_split (fun _ => ?_) fun z => absurd (by decide +kernel) z
  refine wpAny_ite_split (fun z => absurd z (by decide +kernel)) fun _ => ?_
  exact wpAny_pure h
end
section
variable {prog : Program} {w : World} {A : Around} {s : Shared} {R : Result → Shared → Prop}
theorem ext_rev {it l S : Addr} {items : Array Value} {res : Value} {c₀ : Nat} (hh : A.handled = none) (hi : s.heap.IsRevIter it l ((items.size : Int) - 1)) (hl : s.heap.IsList l items) (hz : items.size ≤ sizeLine) (hne : l ≠ it) (h1 : S ≠ it) (h2 : S ≠ l)
    (hS : s.heap.get? S = some { cls := .type "list", data := .seq #[] c₀ })
    (hR : ∀ h' tk acc c, (∀ b o, b ≠ S → b ≠ it → s.heap.get? b = some o → h'.get? b = some o) → h'.get? S = some { cls := .type "list", dict := none, data := .seq acc c, slots := #[] } →
      ItemsOf (fun i v => items[items.size - 1 - i]? = some v) acc items.size → R (.ok (.ret res)) { s with heap := h', toks := tk }) :
    wpAny (model prog w) A.in1 (Builtin.List.listExtendWith (.ref S) (.ref it) res)
      (fun fin s' => match fin with | .done f => R (.ok f) s' | .again c' => c'.quiet = true ∧ codeAny (model prog w) A c' R s') (fun e s' => R (.error e) s') s := by
  have W := (Walks.listRev (prog := prog) (w := w) (A := A.in1) hh it l hne items).toS
  have nin : S ∉ [it, l] := fun z => by
    rcases List.mem_cons.mp z with z | z
    · exact h1 z
    · exact h2 (List.mem_singleton.mp z)
  have e1 : Builtin.List.listSameRef (.ref S) (.ref it) = false := by simp [Builtin.List.listSameRef, h1]
  have e2 : (Value.type "list_reverseiterator" == Value.type "list") = false := by decide
  have e3 : (Value.type "list_reverseiterator" == Value.type "tuple") = false := by decide
  unfold Builtin.List.listExtendWith; refine wpAny_bind (wpAny_typeOf hi.typeIs ?_)
  simp only [e1, e2, e3, Bool.or_false, Bool.or_self, Bool.false_eq_true, if_false]
  refine wpAny_bind (wpAny_pyIter_revIter hi (wpAny_bind (wpAny_holding (hint_lri hi ?_))))
  have st0 : 0 ≤ items.size ∧ s.heap.IsRevIter it l ((items.size : Int) - 1 - ((0 : Nat) : Int)) ∧ s.heap.IsList l items := ⟨Nat.zero_le _, by simpa using hi, hl⟩
  refine wpAny_ite_split (fun z => absurd z (by decide +kernel)) fun _ => wpAny_pure ⟨plainId_quiet F.plain_extend_loop _, ?_⟩
  refine codeAny_extend_loopS W hz S nin res items.size 0 s #[] c₀ rfl (Nat.zero_le _) st0 hS (ItemsOf.nil _) fun s' acc c hm hS' hacc => ?_
  rw [Moved.eq_with hm]
  refine hR s'.heap s'.toks acc c (fun b o b1 b2 e => hm.heap b o (fun z => ?_) e) hS' hacc
  rcases List.mem_cons.mp z with z | z
  · exact b1 z
  · exact b2 (List.mem_singleton.mp z)
end
section
variable {prog : Program} {w : World} {A : Around} {E : Value → Shared → Prop} {s : Shared}
theorem call_list_rev {it l : Addr} {items : Array Value} {Q : Value → Shared → Prop} (hh : A.handled = none) (hi : s.heap.IsRevIter it l ((items.size : Int) - 1)) (hl : s.heap.IsList l items) (hz : items.size ≤ sizeLine) (hne : l ≠ it)
    (hQ : ∀ h' tk acc c, (∀ b o, b ≠ it → s.heap.get? b = some o → h'.get? b = some o) → h'.get? s.heap.objs.size = some { cls := .type "list", dict := none, data := .seq acc c, slots := #[] } →
      ItemsOf (fun i v => items[items.size - 1 - i]? = some v) acc items.size → Q (.ref s.heap.objs.size) { s with heap := h', toks := tk }) : wpAny (model prog w) A (call (.type "list") [.ref it]) Q E s := by
  refine callType_codes (Q₁ := fun o s' => o = .ref s.heap.objs.size ∧ s' = { s with heap := s.heap.push { cls := .type "list", data := .seq #[] } }) F.called_list (F.typeCall_list_1 (.ref it)) F.entry_list_init (code_list_new (.ref it) ⟨rfl, rfl⟩) fun o s' ho => ?_
  obtain ⟨rfl, rfl⟩ := ho
  have lt1 : it < s.heap.objs.size := let ⟨o, e, _⟩ := hi; Heap.lt_size e
  have lt2 : l < s.heap.objs.size := let ⟨o, e, _⟩ := hl; Heap.lt_size e
  have hS : (s.heap.push { cls := .type "list", data := .seq #[] }).get? s.heap.objs.size = some { cls := .type "list", data := .seq #[] } := Heap.get?_push_size _ rfl
  refine ⟨⟨_, hS, rfl⟩, F.args_list_init_2 _ _, ?_⟩
  show wpAny _ A.in1.in1 (do let old ← Builtin.List.listItems (.ref s.heap.objs.size); Builtin.List.listUpdate (.ref s.heap.objs.size) (fun _ => #[]); letGo old.toList.reverse; Builtin.List.listExtendWith (.ref s.heap.objs.size) (.ref it) .none) _ _ _
  refine wpAny_bind ?_; unfold Builtin.List.listItems
  refine wpAny_bind (wpAny_seqItems hS rfl (wpAny_pure ?_))
  show wpAny _ A.in1.in1 (updateSeq s.heap.objs.size (fun _ => #[]) >>= fun _ => letGo (#[] : Array Value).toList.reverse >>= fun _ => Builtin.List.listExtendWith (.ref s.heap.objs.size) (.ref it) .none) _ _ _
  refine wpAny_bind (wpAny_updateSeq hS rfl (wpAny_bind (wpAny_letGo ?_)))
  have hS2 := Heap.get?_update_self (Obj.mapSeq (fun _ => (#[] : Array Value))) hS rfl
  have keep : ∀ b o, s.heap.get? b = some o → ((s.heap.push { cls := .type "list", data := .seq #[] }).update s.heap.objs.size (Obj.mapSeq (fun _ => (#[] : Array Value)))).get? b = some o := fun b o e =>
    (Heap.get?_update_other _ _ (Ne.symm (Nat.ne_of_lt (Heap.lt_size e)))).trans (Heap.get?_push_of_some _ e)
  refine ext_rev (A := A.in1) (items := items) (l := l) hh (hi.at fun o e => keep _ _ e) (hl.at fun o e => keep _ _ e) hz hne (Ne.symm (Nat.ne_of_lt lt1)) (Ne.symm (Nat.ne_of_lt lt2)) hS2 fun h' tk acc c kp hS' hacc => ?_
  exact ⟨rfl, hQ h' tk acc c (fun b o hb e => kp b o (Nat.ne_of_lt (Heap.lt_size e)) hb (keep _ _ e)) hS' hacc⟩
end
theorem items_rev {its : List Value} {acc : Array Value} (h : ItemsOf (fun i v => its.toArray[its.toArray.size - 1 - i]? = some v) acc its.toArray.size) : acc = its.reverse.toArray := by
  apply Array.ext'
  rw [List.toList_toArray]
  have hl : acc.toList.length = its.length := by rw [Array.length_toList, h.1, List.size_toArray]
  refine List.ext_getElem? fun j => ?_
  by_cases hj : j < its.length
  · have hj' : j < acc.size := by rw [h.1, List.size_toArray]; exact hj
    have e : its.toArray[its.toArray.size - 1 - j]? = some acc[j] := h.2 j acc[j] (Array.getElem?_eq_getElem hj')
    rw [List.getElem?_reverse hj]
    rw [List.getElem?_toArray, List.size_toArray] at e
    rw [e, Array.getElem?_toList, Array.getElem?_eq_getElem hj']
  · rw [List.getElem?_eq_none (by omega), List.getElem?_eq_none (by rw [List.length_reverse]; omega)]
section
variable {X : Cx} {e : Expr} {te : TE} {p p2 pos pos2 : Pos}
def tListRev (K : PySem.W.Frag) (te : TE) : TE := fun σ H Q => te σ H fun x H1 => ∃ a xs, x = .ref a ∧ SqL K H1 a xs ∧ ∀ l, H1 l = none → Q (.ref l) (upd H1 l (.lst xs.reverse))
theorem pe_listRev (hc : X.calm = true) (hg : Gl X "list") (hm : X.mg "list" = none) (hgr : Gl X "reversed") (hmr : X.mg "reversed" = none) (he : PE X e te) (h1 : starEach [e] X.env = (false, eval e X.env) :: starEach [] X.env := by rfl)
    (h2 : starEach [.Call (.Name "reversed" p2) [e] [] pos2] X.env = [(false, eval (.Call (.Name "reversed" p2) [e] [] pos2) X.env)] := by rfl) :
    PE X (.Call (.Name "list" p) [.Call (.Name "reversed" p2) [e] [] pos2] [] pos) (tListRev X.K te) := by
  intro pins s σ H Q I h
  refine wpAny_Call_Name_kw (ld_blt I hg hm boot_list (PyProof.Rows.callWith_type1 ?_ h2 rfl) (by decide) (by decide))
  rw [h2]
  show wpAny _ _ (spliced ((false, eval (.Call (.Name "reversed" p2) [e] [] pos2) X.env) :: backTo pos [])) _ _ s
  refine Calls.spliced_cons (wpAny_Call_Name_kw (ld_blt I hgr hmr boot_rev (PyProof.Rows.callWith_type1 (thn ((pa_cons he pa_nil h1) pos2 pins s σ H (fun vs H1 => ∃ x, vs = [x] ∧ ∃ a xs, x = .ref a ∧ SqL X.K H1 a xs ∧ ∀ l, H1 l = none → Q (.ref l) (upd H1 l (.lst xs.reverse))) I ?_) fun us s1 ⟨vs, H1, I1, r1, q1⟩ => ?_) h1 rfl) (by decide) (by decide)))
  · refine (show te σ H _ from ?_)
    have mono : (fun x H1 => ∃ a xs, x = V.ref a ∧ SqL X.K H1 a xs ∧ ∀ l, H1 l = none → Q (.ref l) (upd H1 l (.lst xs.reverse))) = fun x H1 => ∃ y, [x] = [y] ∧ ∃ a xs, y = V.ref a ∧ SqL X.K H1 a xs ∧ ∀ l, H1 l = none → Q (.ref l) (upd H1 l (.lst xs.reverse)) := by
      funext x H1
      refine propext ⟨fun z => ⟨x, rfl, z⟩, fun ⟨y, e, z⟩ => ?_⟩
      cases e
      exact z
    have h' : te σ H (fun x H1 => ∃ a xs, x = V.ref a ∧ SqL X.K H1 a xs ∧ ∀ l, H1 l = none → Q (.ref l) (upd H1 l (.lst xs.reverse))) := h
    rw [mono] at h'
    exact h'
  obtain ⟨x, rfl, a, xs, rfl, hq, q⟩ := q1
  obtain ⟨u, rfl, ru⟩ := vals1 r1
  cases ru
  obtain ⟨its, r, pl, hz⟩ := I1.list hq
  have hlen := r.length
  refine call_reversed_list pl.isList (Calls.spliced_nil ?_)
  have lt1 : a < s1.heap.objs.size := let ⟨o, z, _⟩ := pl.isList; Heap.lt_size z
  refine call_list_rev (items := its.toArray) (l := a) (I1.ok.hd hc) ⟨_, Heap.get?_push_size _ rfl, rfl, rfl⟩ (pl.isList.push _) (by simp only [List.size_toArray]; omega) (Nat.ne_of_lt lt1) fun h' tk acc c kp eL hacc => ?_
  have kp2 : ∀ b o, s1.heap.get? b = some o → h'.get? b = some o := fun b o z => kp b o (Nat.ne_of_lt (Heap.lt_size z)) (Heap.get?_push_of_some _ z)
  have hge : s1.heap.objs.size ≤ (s1.heap.push (revObj a ((its.toArray.size : Int) - 1))).objs.size := by rw [Heap.size_push]; omega
  rw [items_rev hacc] at eL
  exact ⟨.ref _, _, I1.laid (t' := tk) kp2 hge (show ObjOk X.prog X.w _ h' _ (.lst xs.reverse) from ⟨by rw [List.length_reverse]; exact hz, its.reverse, c, r.reverse, eL⟩), rfl, q _ (I1.hok.fresh hge)⟩
end
theorem vals_at : ∀ (xs : List V) (us : List Value), xs.length = us.length → (∀ (i : Nat) (x : V) (u : Value), xs[i]? = some x → us[i]? = some u → RelV x u) → Vals xs us
  | [], [], _, _ => .nil
  | x :: xs, u :: us, hl, h => .cons (h 0 x u rfl rfl) (vals_at xs us (by simpa using hl) fun i y v h1 h2 => h (i + 1) y v h1 h2)
  | [], _ :: _, hl, _ => by cases hl
  | _ :: _, [], hl, _ => by cases hl
section
variable {X : Cx} {a : Expr} {ta : TA} {p p2 pos pos2 : Pos}
def tListRange (ta : TA) : TE := fun σ H Q => ta σ H fun vs H1 => ∃ n : Nat, vs = [.int (n : Int)] ∧ n ≤ 1000000 ∧ ∀ l, H1 l = none → Q (.ref l) (upd H1 l (.lst ((List.range n).map fun i : Nat => V.int (i : Int))))
theorem pe_listRange (hc : X.calm = true) (hg : Gl X "list") (hm : X.mg "list" = none) (hgr : Gl X "range") (hmr : X.mg "range" = none) (ha : PA X [a] ta) (h1 : starEach [a] X.env = [(false, eval a X.env)] := by rfl)
    (h2 : starEach [.Call (.Name "range" p2) [a] [] pos2] X.env = [(false, eval (.Call (.Name "range" p2) [a] [] pos2) X.env)] := by rfl) :
    PE X (.Call (.Name "list" p) [.Call (.Name "range" p2) [a] [] pos2] [] pos) (tListRange ta) := by
  intro pins s σ H Q I h
  refine wpAny_Call_Name_kw (ld_blt I hg hm boot_list (PyProof.Rows.callWith_type1 ?_ h2 rfl) (by decide) (by decide))
  rw [h2]
  show wpAny _ _ (spliced ((false, eval (.Call (.Name "range" p2) [a] [] pos2) X.env) :: backTo pos [])) _ _ s
  refine Calls.spliced_cons (Call_ (ld_blt I hgr hmr boot_range (PyProof.Rows.callWith_type1 (thn (ha pos2 pins s σ H _ I h) fun us s1 ⟨vs, H1, I1, r1, q1⟩ => ?_) h1 rfl)))
  obtain ⟨n, rfl, hn, q⟩ := q1
  obtain ⟨u, rfl, t, rfl⟩ := vals1 r1
  refine call_range_1 (Calls.spliced_nil ?_)
  have hsm : Builtin.Range.small 0 (n : Int) 1 = true := small_one (by omega) (by omega) (by omega) (by omega)
  refine call_list_range (n := n) (I1.ok.hd hc) (IsRange.new ..) hsm (by rw [rs_up]; omega) (by omega) fun h' tk acc c kp eL hacc => ?_
  have hz : n ≤ sizeLine := Nat.le_trans hn (by decide)
  refine ⟨.ref _, _, I1.laid (t' := tk) (fun b o z => kp b o (Heap.get?_push_of_some _ z)) (by rw [Heap.size_push]; omega) (show ObjOk X.prog X.w _ h' _ (.lst ((List.range n).map fun i : Nat => V.int (i : Int))) from ⟨by rw [List.length_map, List.length_range]; exact hz, acc.toList, c, vals_at _ _ ?_ ?_, by rw [eL]⟩), rfl, q _ (I1.hok.fresh (by rw [Heap.size_push]; omega))⟩
  · rw [List.length_map, List.length_range, Array.length_toList, hacc.1]
  · intro i x u hx hu
    have hi : i < n := by
      have := (List.getElem?_eq_some_iff.mp hx).1
      rw [List.length_map, List.length_range] at this
      exact this
    rw [List.getElem?_map, List.getElem?_range hi] at hx
    have ex : V.int (i : Int) = x := Option.some.inj hx
    rw [Array.getElem?_toList] at hu
    obtain ⟨t2, e2⟩ := hacc.2 i u hu
    have e3 : (0 : Int) + (i : Int) * 1 = i := by omega
    rw [e3] at e2
    rw [← ex]
    exact ⟨t2, e2⟩
end
end L2

namespace L2
open PySem PySem.Spec PyProof.Rows
section
variable {prog : Program} {w : World} {A : Around} {R : Result → Shared → Prop} {it S : Addr} {fp wr : List Addr} {n : Nat} {P : Nat → Value → Prop} {St : Nat → Heap → Prop} {G : Heap → Prop} {bt : Nat → Nat → Bool}
def StaysG (wr : List Addr) (S : Addr) (G : Heap → Prop) : Prop := ∀ h h' : Heap, G h → (∀ b o, b ∉ wr → b ≠ S → h.get? b = some o → h'.get? b = some o) → G h'
def CmpG (prog : Program) (w : World) (A : Around) (G : Heap → Prop) (P : Nat → Value → Prop) (bt : Nat → Nat → Bool) : Prop :=
  ∀ (i j : Nat) (u v : Value) (s : Shared) (Q : Value → Shared → Prop) (E : Value → Shared → Prop), G s.heap → P i u → P j v → Q (.bool (bt i j)) s → wpAny (model prog w) A (richCompare .Lt u v) Q E s
theorem min_name : (toString "min" ++ toString ".loop" : String) = "min.loop" := by decide
theorem minLoop (W : Walks prog w A.in1 it fp wr n P St) (gs : StaysG wr S G) (cm : CmpG prog w A.in1 G P bt) (nf : S ∉ fp) : ∀ (k j : Nat) (s : Shared) (x : Value) (c : Nat), n - (j + 1) = k → j + 1 ≤ n → St (j + 1) s.heap → G s.heap → P (argBest bt j) x →
    s.heap.get? S = some { cls := .type "list", dict := none, data := .seq #[x, x] c, slots := #[] } →
    (∀ y h' tk, P (argBest bt (n - 1)) y → (∀ b o, b ∉ wr → b ≠ S → s.heap.get? b = some o → h'.get? b = some o) → R (.ok (.ret y)) { s with heap := h', toks := tk }) →
    codeAny (model prog w) A (.builtin "min.loop" ⟨[.ref it, .none, .ref S], []⟩) R s := by
  have nw : S ∉ wr := fun z => nf (W.sub _ z)
  intro k
  induction k with
  | zero =>
    intro j s x c e1 e2 st g px hS fin
    have e3 : j + 1 = n := by omega
    refine codeAny_builtin F.entry_min_loop ?_; rw [Around.under_plainId F.plain_min_loop]
    show wpAny _ A.in1 (seqItems? (.ref S) >>= _) _ _ _
    refine wpAny_bind (wpAny_seqItems hS rfl (show wpAny _ A.in1 (tryCatch (pyNext (.ref it)) _ >>= _) _ _ s from wpAny_bind (wpAny_tryCatch (W.done s _ _ (e3 ▸ st) fun h1 tk1 k1 => ?_))))
    have hS1 := k1 S _ nw hS
    show wpAny _ A.in1 (updateSeq S (fun _ => #[]) >>= _) _ _ _
    refine wpAny_bind (wpAny_updateSeq hS1 rfl (wpAny_bind (wpAny_letGo (wpAny_pure (fin x _ tk1 (by rw [← e3]; exact px) fun b o b1 b2 e => ?_)))))
    exact (Heap.get?_update_other _ _ (Ne.symm b2)).trans (k1 b o b1 e)
  | succ k ih =>
    intro j s x c e1 e2 st g px hS fin
    have e3 : j + 1 < n := by omega
    refine codeAny_builtin F.entry_min_loop ?_; rw [Around.under_plainId F.plain_min_loop]
    show wpAny _ A.in1 (seqItems? (.ref S) >>= _) _ _ _
    refine wpAny_bind (wpAny_seqItems hS rfl (show wpAny _ A.in1 (tryCatch (pyNext (.ref it)) _ >>= _) _ _ s from wpAny_bind (wpAny_tryCatch (W.item (j + 1) s _ _ e3 st fun v h1 tk1 pv st1 k1 => ?_))))
    have hS1 := k1 S _ nw hS
    have g1 : G h1 := gs _ _ g fun b o b1 _ e => k1 b o b1 e
    show wpAny _ A.in1 (tryCatch (holding [v, v] (richCompare .Lt v x >>= _)) _ >>= _) _ _ _
    refine wpAny_bind (wpAny_tryCatch (wpAny_holding (wpAny_bind (cm (j + 1) (argBest bt j) v x _ _ _ g1 pv px (wpAny_bind (wpAny_holding (wpAny_truthy_bool (wpAny_bind (wpAny_letGo (wpAny_pure ?_))))))))))
    cases hb : bt (j + 1) (argBest bt j) with
    | true =>
      simp only [if_true]; refine wpAny_bind (wpAny_updateSeq hS1 rfl (wpAny_bind (wpAny_letGo ?_)))
      rw [min_name]
      have stp : argBest bt (j + 1) = j + 1 := by simp only [argBest, hb, if_true]
      have oth : ∀ b o, b ≠ S → h1.get? b = some o → (h1.update S (Obj.mapSeq fun _ => #[v, v])).get? b = some o := fun b o nb e => (Heap.get?_update_other _ _ (Ne.symm nb)).trans e
      refine wpAny_pure ⟨plainId_quiet F.plain_min_loop _, ih (j + 1) _ v _ (by omega) e3 (W.frame _ _ _ st1 fun b bf o e => oth b o (fun z => nf (z ▸ bf)) e) (gs _ _ g1 fun b o _ b2 e => oth b o b2 e) (by rw [stp]; exact pv) (Heap.get?_update_self _ hS1 rfl) fun y h2 tk2 py k2 => ?_⟩
      exact fin y h2 tk2 py fun b o b1 b2 e => k2 b o b1 b2 (oth b o b2 (k1 b o b1 e))
    | false =>
      simp only [Bool.false_eq_true, if_false]; refine wpAny_bind (wpAny_letGo ?_)
      rw [min_name]
      have stp : argBest bt (j + 1) = argBest bt j := by simp only [argBest, hb, Bool.false_eq_true, if_false]
      refine wpAny_pure ⟨plainId_quiet F.plain_min_loop _, ih (j + 1) _ x c (by omega) e3 st1 g1 (by rw [stp]; exact px) hS1 fun y h2 tk2 py k2 => ?_⟩
      exact fin y h2 tk2 py fun b o b1 b2 e => k2 b o b1 b2 (k1 b o b1 e)
theorem minFirst (W : Walks prog w A.in1 it fp wr n P St) (gs : StaysG wr S G) (cm : CmpG prog w A.in1 G P bt) (nf : S ∉ fp) (hn : 0 < n) {s : Shared} {c : Nat} (st : St 0 s.heap) (g : G s.heap)
    (hS : s.heap.get? S = some { cls := .type "list", dict := none, data := .seq #[] c, slots := #[] })
    (fin : ∀ y h' tk, P (argBest bt (n - 1)) y → (∀ b o, b ∉ wr → b ≠ S → s.heap.get? b = some o → h'.get? b = some o) → R (.ok (.ret y)) { s with heap := h', toks := tk }) :
    codeAny (model prog w) A (.builtin "min.loop" ⟨[.ref it, .none, .ref S], []⟩) R s := by
  have nw : S ∉ wr := fun z => nf (W.sub _ z)
  refine codeAny_builtin F.entry_min_loop ?_; rw [Around.under_plainId F.plain_min_loop]
  show wpAny _ A.in1 (seqItems? (.ref S) >>= _) _ _ _
  refine wpAny_bind (wpAny_seqItems hS rfl (show wpAny _ A.in1 (tryCatch (pyNext (.ref it)) _ >>= _) _ _ s from wpAny_bind (wpAny_tryCatch (W.item 0 s _ _ hn st fun v h1 tk1 pv st1 k1 => ?_))))
  have hS1 := k1 S _ nw hS
  have g1 : G h1 := gs _ _ g fun b o b1 _ e => k1 b o b1 e
  have oth : ∀ b o, b ≠ S → h1.get? b = some o → (h1.update S (Obj.mapSeq fun _ => #[v, v])).get? b = some o := fun b o nb e => (Heap.get?_update_other _ _ (Ne.symm nb)).trans e
  show wpAny _ A.in1 (updateSeq S (fun _ => #[v, v]) >>= _) _ _ _
  refine wpAny_bind (wpAny_updateSeq hS1 rfl ?_); rw [min_name]
  refine wpAny_pure ⟨plainId_quiet F.plain_min_loop _, minLoop W gs cm nf _ 0 _ v _ rfl hn (W.frame _ _ _ st1 fun b bf o e => oth b o (fun z => nf (z ▸ bf)) e) (gs _ _ g1 fun b o _ b2 e => oth b o b2 e) pv (Heap.get?_update_self _ hS1 rfl) fun y h2 tk2 py k2 => ?_⟩
  exact fin y h2 tk2 py fun b o b1 b2 e => k2 b o b1 b2 (oth b o b2 (k1 b o b1 e))
end
section
variable {prog : Program} {w : World} {A : Around} {E : Value → Shared → Prop} {s : Shared}
theorem call_minG {l : Addr} {items : Array Value} {Q : Value → Shared → Prop} {G : Heap → Prop} {bt : Nat → Nat → Bool} (hh : A.handled = none) (hl : s.heap.IsList l items) (hn : 0 < items.size)
    (g0 : G s.heap) (gs : ∀ it S, s.heap.objs.size ≤ it → s.heap.objs.size ≤ S → StaysG [it] S G) (cm : CmpG prog w A.in1 G (fun i v => items[i]? = some v) bt)
    (q : ∀ v h' tk, items[argBest bt (items.size - 1)]? = some v → (∀ b o, s.heap.get? b = some o → h'.get? b = some o) → Q v { s with heap := h', toks := tk }) :
    wpAny (model prog w) A (call (.builtin "min") [.ref l]) Q E s := by
  have ltl : l < s.heap.objs.size := let ⟨o, z, _⟩ := hl; Heap.lt_size z
  refine call_function_tree F.kind_min F.plain_min F.entry_min (F.args_min1 (.ref l)) ?_
  show wpAny _ A.in1 (Builtin.Builtins.bindParams "min" ["key", "default"] 0 ⟨[], []⟩ >>= _) _ _ _
  refine wpAny_bind (wpAny_of_eq (show Builtin.Builtins.bindParams "min" ["key", "default"] 0 ⟨[], []⟩ = pure [none, none] from rfl) (wpAny_bind (wpAny_pure (wpAny_bind (wpAny_pyIter_list hl ?_)))))
  refine wpAny_bind (wpAny_newObj_type ?_); rw [min_name]
  have gI := gs s.heap.objs.size (s.heap.push { cls := .type "list_iterator", data := .fields #[.ref l, .int 0 0] }).objs.size (Nat.le_refl _) (by rw [Heap.size_push]; omega)
  have kp : ∀ b o, s.heap.get? b = some o → ((s.heap.push { cls := .type "list_iterator", data := .fields #[.ref l, .int 0 0] }).push { cls := .type "list", data := .seq #[] }).get? b = some o := fun b o e => Heap.get?_push_of_some _ (Heap.get?_push_of_some _ e)
  have W := Walks.list (prog := prog) (w := w) (A := A.in1) hh s.heap.objs.size l (Nat.ne_of_lt ltl) items
  have nf : (s.heap.push { cls := .type "list_iterator", data := .fields #[.ref l, .int 0 0] }).objs.size ∉ [s.heap.objs.size, l] := fun z => by
    rw [Heap.size_push] at z
    rcases List.mem_cons.mp z with z | z
    · exact absurd z (Nat.succ_ne_self _)
    · have e := List.mem_singleton.mp z
      rw [← e] at ltl
      exact absurd ltl (Nat.not_lt.mpr (Nat.le_succ _))
  refine wpAny_pure ⟨plainId_quiet F.plain_min_loop _, minFirst (G := G) (bt := bt) W gI cm nf hn ⟨⟨_, Heap.get?_push_of_some _ (Heap.get?_push_size _ rfl), rfl, rfl⟩, (hl.push _).push _⟩ (gI _ _ g0 fun b o _ _ e => kp b o e) (Heap.get?_push_size _ rfl) fun y h' tk py k2 => ?_⟩
  exact q y h' tk py fun b o e => k2 b o (fun z => absurd (List.mem_singleton.mp z) (Nat.ne_of_lt (Heap.lt_size e))) (Nat.ne_of_lt (Nat.lt_of_lt_of_le (Heap.lt_size e) (by rw [Heap.size_push]; exact Nat.le_succ _))) (kp b o e)
end
theorem lex_irr : ∀ x : List Int, HT.lexLt x x = false
  | [] => rfl
  | a :: x => by rw [HT.lexLt_cons, if_pos rfl]; exact lex_irr x
theorem lex_trans : ∀ {x y z : List Int}, HT.lexLt x y = true → HT.lexLt y z = true → HT.lexLt x z = true
  | [], [], _, h, _ => by cases h
  | [], _ :: _, [], _, h => by cases h
  | [], _ :: _, _ :: _, _, _ => rfl
  | _ :: _, [], _, h, _ => by cases h
  | _ :: _, _ :: _, [], _, h => by cases h
  | a :: x, b :: y, c :: z, h1, h2 => by
    rw [HT.lexLt_cons] at h1 h2 ⊢
    by_cases e1 : a = b
    · subst e1
      rw [if_pos rfl] at h1
      by_cases e2 : a = c
      · rw [if_pos e2] at h2 ⊢
        exact lex_trans h1 h2
      · rw [if_neg e2] at h2 ⊢
        exact h2
    · rw [if_neg e1] at h1
      have h1 := of_decide_eq_true h1
      by_cases e2 : b = c
      · subst e2
        rw [if_neg e1]
        exact decide_eq_true h1
      · rw [if_neg e2] at h2
        have h2 := of_decide_eq_true h2
        rw [if_neg (by omega)]
        exact decide_eq_true (by omega)
theorem lex_total : ∀ {x y : List Int}, x.length = y.length → HT.lexLt x y = false → HT.lexLt y x = false → x = y
  | [], [], _, _, _ => rfl
  | [], _ :: _, h, _, _ => by cases h
  | _ :: _, [], h, _, _ => by cases h
  | a :: x, b :: y, h, h1, h2 => by
    rw [HT.lexLt_cons] at h1 h2
    by_cases e : a = b
    · subst e
      rw [if_pos rfl] at h1 h2
      rw [lex_total (by simpa using h) h1 h2]
    · rw [if_neg e] at h1
      rw [if_neg (fun z => e z.symm)] at h2
      have h1 := of_decide_eq_false h1
      have h2 := of_decide_eq_false h2
      omega
theorem best_min {f : Nat → List Int} : ∀ k j, j ≤ k → HT.lexLt (f j) (f (argBest (fun i j => HT.lexLt (f i) (f j)) k)) = false
  | 0, j, h => by
    have e : j = 0 := by omega
    subst e
    exact lex_irr _
  | k + 1, j, h => by
    have ih := best_min (f := f) k
    simp only [argBest]
    by_cases c : HT.lexLt (f (k + 1)) (f (argBest (fun i j => HT.lexLt (f i) (f j)) k)) = true
    · rw [if_pos c]
      by_cases e : j = k + 1
      · subst e; exact lex_irr _
      · cases z : HT.lexLt (f j) (f (k + 1)) with
        | false => rfl
        | true =>
          have := lex_trans z c
          rw [ih j (by omega)] at this
          cases this
    · rw [if_neg c]
      by_cases e : j = k + 1
      · subst e; exact Bool.eq_false_iff.mpr c
      · exact ih j (by omega)
theorem best_le {bt : Nat → Nat → Bool} : ∀ k, argBest bt k ≤ k
  | 0 => Nat.le_refl _
  | k + 1 => by
    have := best_le (bt := bt) k
    simp only [argBest]
    split <;> omega
section
variable {X : Cx}
def rMinT (K : PySem.W.Frag) : List V → Hp → VK → Prop := fun xs H Q => ∃ (p : Addr) (as : List Addr) (ts : List (List Int)), xs = [.ref p] ∧ SqL K H p (as.map V.ref) ∧ as.length = ts.length ∧ 0 < ts.length ∧
  (∀ (i : Nat) (a : Addr), as[i]? = some a → SqT K H a ((ts.getD i []).map V.int)) ∧ ∀ (i : Nat) (a : Addr), as[i]? = some a → i < ts.length → (∀ j, j < ts.length → HT.lexLt (ts.getD j []) (ts.getD i []) = false) → Q (.ref a) H
theorem call_minT (hc : X.calm = true) (hu : X.A.units + 1 < cLine) : CallR X (.builtin "min") (rMinT X.K) := by
  intro pins s σ H xs us Q I r h
  obtain ⟨p, as, ts, rfl, hq, hl, hpos, ht, q⟩ := h
  obtain ⟨u, rfl, rx⟩ := vals1 r
  cases rx
  obtain ⟨its, r', pl, hz⟩ := I.list hq
  have hlen := r'.length
  rw [List.length_map] at hlen
  have item : ∀ (i : Nat) (v : Value), its.toArray[i]? = some v → ∃ a, as[i]? = some a ∧ v = .ref a := fun i v hv => by
    rw [List.getElem?_toArray] at hv
    have hi : i < as.length := by rw [hlen]; exact (List.getElem?_eq_some_iff.mp hv).1
    have e : (as.map V.ref)[i]? = some (.ref as[i]) := by rw [List.getElem?_map, List.getElem?_eq_getElem hi]; rfl
    obtain ⟨w', e', rw'⟩ := r'.get e
    rw [hv] at e'
    have ew : v = w' := Option.some.inj e'
    subst ew
    exact ⟨as[i], List.getElem?_eq_getElem hi, rw'⟩
  refine call_minG (G := fun h => ∀ a ∈ as, ∀ o, s.heap.get? a = some o → h.get? a = some o) (bt := fun i j => HT.lexLt (ts.getD i []) (ts.getD j [])) (I.ok.hd hc) pl.isList (by rw [List.size_toArray]; omega) (fun a _ o e => e) (fun it S h1 h2 h h' g k a ha o e => ?_) (fun i j u v s' Q' E' g hu' hv' hq' => ?_) fun v h' tk hv hk => ?_
  · have lt := Heap.lt_size e
    exact k a o (fun z => absurd (List.mem_singleton.mp z) (Nat.ne_of_lt (Nat.lt_of_lt_of_le lt h1))) (Nat.ne_of_lt (Nat.lt_of_lt_of_le lt h2)) (g a ha o e)
  · obtain ⟨a, ea, rfl⟩ := item i u hu'
    obtain ⟨b, eb, rfl⟩ := item j v hv'
    obtain ⟨ia, ra, ta, za⟩ := I.tuple (ht i a ea)
    obtain ⟨ib, rb, tb, zb⟩ := I.tuple (ht j b eb)
    obtain ⟨oa, ga, ca, na, da⟩ := ta
    obtain ⟨ob, gb, cb, nb, db⟩ := tb
    exact HT.lt_tupInts (items := ia.toArray) (items2 := ib.toArray) ⟨oa, g a (List.mem_of_getElem? ea) _ ga, ca, na, da⟩ ⟨ob, g b (List.mem_of_getElem? eb) _ gb, cb, nb, db⟩ (by simpa using intsAre_of ra) (by simpa using intsAre_of rb) (by first | exact hu | (have := hu; show X.A.units < cLine; omega)) hq'
  · obtain ⟨a, ea, rfl⟩ := item _ v hv
    have hsz : its.toArray.size - 1 = ts.length - 1 := by rw [List.size_toArray]; omega
    rw [hsz] at ea
    have hb := best_le (bt := fun i j => HT.lexLt (ts.getD i []) (ts.getD j [])) (ts.length - 1)
    exact ⟨.ref a, H, I.kept hk, rfl, q _ a ea (by omega) fun j hj => best_min (f := fun i => ts.getD i []) (ts.length - 1) j (by omega)⟩
end
end L2

namespace L2
open PySem PySem.Spec PyProof.Rows
theorem count_eqU {x : V} : ∀ {xs : List V} {us : List Value}, Vals xs us → xs.all flatV = true → us.countP (eqU x) = xs.countP fun y => eqV y x
  | [], [], .nil, _ => rfl
  | y :: xs, u :: us, .cons r rr, h => by
    rw [List.all_cons, Bool.and_eq_true] at h
    rw [List.countP_cons, List.countP_cons, count_eqU rr h.2, eqU_of r h.1]
section
variable {X : Cx}
def rCount : V → List V → Hp → VK → Prop := fun x vs H Q => ∃ l xs y, x = .ref l ∧ vs = [y] ∧ H l = some (.lst xs) ∧ xs.all flatV = true ∧ flatV y = true ∧ Q (.int ((xs.countP fun z => eqV z y : Nat) : Int)) H
theorem mt_count : MtM X "list.count" rCount := by
  intro pins s σ H x vs v us Q I rx rv h
  obtain ⟨l, xs, y, rfl, rfl, hH, fx, fy, q⟩ := h
  cases rx
  obtain ⟨u, rfl, ru⟩ := rv.one
  obtain ⟨z, its, n, r, hl, e⟩ := I.lstM hH
  refine call_meets F.slot_list_count ⟨_, e, rfl⟩ F.entry_list_count (F.args_list_count_2 _ _) (SeqAt.list_countAt l its.toArray n none #[] u (eqU y)) ⟨e, fun w hw => mem_eqAt ru fy r fx w (by simpa using hw), ?_⟩
  have hc : (its.toArray.toList.countP (eqU y)) = xs.countP fun z => eqV z y := by
    rw [List.toList_toArray]
    exact count_eqU r fx
  rw [hc]
  exact ⟨.int _, H, I.tok _, ⟨_, rfl⟩, q⟩
end
section
variable {te : TE} {τ : St} {H1 : Hp} {Q : VK}
theorem comp_listR {K : PySem.W.Frag} {a : Addr} {xs : List V} (P : Addr → Nat → V → Hp → Prop) (hn : xs.length ≤ 1000) (hl : SqL K H1 a xs)
    (mono : ∀ D i v H H', But D H H' → P D i v H → P D i v H')
    (he : ∀ (D : Addr) (i : Nat) (x : V) (H : Hp) (Q' : VK), xs[i]? = some x → (∃ ys, H D = some (.lst ys)) → Same H1 H → (∀ v H', Same H H' → P D i v H' → Q' v H') → te (some x :: τ) H Q')
    (q : ∀ (D : Addr) (H' : Hp) (vs : List V), Same H1 H' → H1 D = none → H' D = some (.lst vs) → vs.length = xs.length → (∀ i v, vs[i]? = some v → P D i v H') → Q (.ref D) H') : tCompF (Itl K a) tTrue te τ H1 Q := by
  intro D hD
  refine ⟨fun i m H => i ≤ xs.length ∧ m = xs.length - i ∧ Same H1 H ∧ ∃ vs, H D = some (.lst vs) ∧ vs.length = i ∧ ∀ k v, vs[k]? = some v → P D k v H, ⟨xs.length, Nat.zero_le _, rfl, same_new hD _, [], upd_same, rfl, fun k v e => by cases e⟩, ?_⟩
  rintro i m H ⟨hi, hm, s, vs, e, hv, hP⟩
  by_cases hlt : i < xs.length
  · have hx : xs[i]? = some xs[i] := List.getElem?_eq_getElem hlt
    refine .inr ⟨⟨xs, xs[i], s.seq hl, hx⟩, fun x H' hy => ?_⟩
    obtain ⟨e1, e2⟩ := hy
    subst e1
    have e3 := e2 xs (s.seq hl)
    dsimp only [tTrue]
    rw [if_pos rfl]
    refine he D i x H' _ e3 ⟨vs, e⟩ s fun v H2 s2 p2 => ?_
    refine ⟨vs, xs.length - (i + 1), s2 _ _ e, small1000 (by omega), by omega, by omega, rfl, fun b o z => ?_, vs ++ [v], upd_same, by rw [List.length_append, hv]; rfl, fun k u ek => ?_⟩
    · rw [upd_ne (ne_of_none z hD)]; exact s2 _ _ (s _ _ z)
    · have B : But D H2 (upd H2 D (.lst (vs ++ [v]))) := But.upd
      by_cases hk : k < vs.length
      · rw [List.getElem?_append_left hk] at ek
        exact mono D k u H' _ (fun b o z nb => B b o (s2 b o z) nb) (hP k u ek)
      · rw [List.getElem?_append_right (by omega)] at ek
        have hz : k - vs.length = 0 := by
          rcases Nat.eq_zero_or_pos (k - vs.length) with z | z
          · exact z
          · rw [List.getElem?_eq_none (by rw [List.length_singleton]; omega)] at ek
            cases ek
        rw [hz] at ek
        have eu : v = u := Option.some.inj ek
        subst eu
        have ek2 : k = i := by omega
        subst ek2
        exact mono D k v H2 _ B p2
  · have e3 : i = xs.length := by omega
    subst e3
    exact .inl ⟨⟨xs, s.seq hl, Nat.le_refl _⟩, q D H vs s hD e hv hP⟩
end
end L2

namespace L2
open PySem PySem.Spec PyProof.Rows
section
variable {X : Cx}
def rSortedL (K : PySem.W.Frag) : List V → Hp → VK → Prop := fun xs H Q => ∃ (p : Addr) (ns : List Int), xs = [.ref p] ∧ SqL K H p (ns.map V.int) ∧ ns.length < 64 ∧ ∀ (l : Addr) (ms : List Int), H l = none → ms.Perm ns → ms.Pairwise (· ≤ ·) → Q (.ref l) (upd H l (.lst (ms.map V.int)))
theorem call_sortedL : CallR X (.builtin "sorted") (rSortedL X.K) := by
  intro pins s σ H xs us Q I r h
  obtain ⟨p, ns, rfl, hq, hl, q⟩ := h
  obtain ⟨u, rfl, rx⟩ := vals1 r
  cases rx
  obtain ⟨its, r', pl, hz⟩ := I.list hq
  have hi := intsAre_of r'
  have hlen := r'.length
  rw [List.length_map] at hlen
  refine sorted_ints pl.isList hi (by omega) fun out ns' a1 a2 a3 => ?_
  obtain ⟨e, he⟩ := sortedAll_at s.heap its out
  have hn : ns'.length ≤ sizeLine := by
    rw [a2.length_eq, ← List.length_map (f := V.int)]
    exact hz
  exact ⟨.ref (s.heap.objs.size + 1), _, I.laid (t' := s.toks) (fun b o z => sortedAll_old z) (Nat.le_succ _) (show ObjOk X.prog X.w _ _ _ (.lst (ns'.map V.int)) from ⟨by rw [List.length_map]; exact hn, out.toList, e, vals_ints a1, he⟩), rfl, q _ ns' (I.hok.fresh (Nat.le_succ _)) a2 a3⟩
def CDivM (_ j : Int) : Prop := 0 < j ∧ j < 2 ^ 200
theorem op_fdivM : OpR X (binaryOp .FloorDiv) (rI CDivM fun i j => .int (i / j)) := opI fun i j _ _ _ _ _ hc q => by
  have h1 : (0 : Int) < j := hc.1
  have h2 : j < 2 ^ 200 := hc.2
  refine floordiv_int (by omega) (by rw [Int.fdiv_eq_ediv_of_nonneg i (by omega)]; exact q) (.inl (PyProof.noPylong_of_log2 ?_))
  have hn : j.natAbs ≠ 0 := by omega
  have hlt : j.natAbs < 2 ^ 9000 := by
    have e : ((j.natAbs : Nat) : Int) = j := by omega
    have h3 : ((j.natAbs : Nat) : Int) < ((2 ^ 200 : Nat) : Int) := by rw [e]; exact_mod_cast h2
    exact Nat.lt_trans (Int.ofNat_lt.mp h3) (Nat.pow_lt_pow_right (by decide) (by decide))
  exact (Nat.log2_lt hn).mpr hlt
end
section
variable {X : Cx}
structure Nest (K : PySem.W.Frag) (H : Hp) (a b : Addr) (as bs : List Addr) : Prop where
  l : SqL K H a (as.map V.ref)
  r : SqL K H b (bs.map V.ref)
  len : as.length = bs.length
  at_ : ∀ (i : Nat) (c d : Addr), as[i]? = some c → bs[i]? = some d → ∃ xs : List V, SqL K H c xs ∧ SqL K H d xs ∧ xs.all flatV = true
theorem nest_at {pins : List (Addr × Obj)} {σ : St} {H : Hp} {s : Shared} {a b : Addr} {as bs : List Addr} {us ws : List Value} (I : Inv X pins σ H s) (N : Nest X.K H a b as bs) (hu : X.A.units + 1 < cLine) (r : Vals (as.map V.ref) us) (r' : Vals (bs.map V.ref) ws) :
    ∀ j (h1 : j < us.toArray.size) (h2 : j < ws.toArray.size), SeqAt.EqAt X.A.in1 s us.toArray[j] ws.toArray[j] true := by
  intro j h1 h2
  have l1 := r.length
  have l2 := r'.length
  rw [List.length_map] at l1 l2
  have k1 : j < as.length := by rw [l1]; simpa using h1
  have k2 : j < bs.length := by rw [l2]; simpa using h2
  obtain ⟨u, hu', ru⟩ := r.get (show (as.map V.ref)[j]? = some (.ref as[j]) by rw [List.getElem?_map, List.getElem?_eq_getElem k1]; rfl)
  obtain ⟨v, hv', rv⟩ := r'.get (show (bs.map V.ref)[j]? = some (.ref bs[j]) by rw [List.getElem?_map, List.getElem?_eq_getElem k2]; rfl)
  have q1 : us.toArray[j] = u := by
    have : us[j]? = some us[j] := List.getElem?_eq_getElem (by rw [← l1]; exact k1)
    rw [this] at hu'
    simpa using Option.some.inj hu'
  have q2 : ws.toArray[j] = v := by
    have : ws[j]? = some ws[j] := List.getElem?_eq_getElem (by rw [← l2]; exact k2)
    rw [this] at hv'
    simpa using Option.some.inj hv'
  obtain ⟨xs, g1, g2, fl⟩ := N.at_ j as[j] bs[j] (List.getElem?_eq_getElem k1) (List.getElem?_eq_getElem k2)
  rw [q1, q2, show u = .ref as[j] from ru, show v = .ref bs[j] from rv]
  generalize as[j] = c at g1
  generalize bs[j] = d at g2
  by_cases e : c = d
  · subst e
    exact SeqAt.EqAt.same _
  · obtain ⟨its, t1, pl, hz⟩ := I.list g1
    obtain ⟨its', t2, pl', hz'⟩ := I.list g2
    have m1 := t1.length
    have m2 := t2.length
    refine SeqAt.EqAt.of_refs e fun prog w E Q hq => ?_
    refine SeqAt.RcAt.lists (e := fun j => eqV (xs.getD j .non) (xs.getD j .non)) pl.isList pl'.isList (by simp only [List.size_toArray]; omega) (by first | exact hu | (show X.A.units < cLine; omega)) (seqEq_at t1 t2 fl fl) prog w E Q ?_
    have et : (List.range its.toArray.size).all (fun j => eqV (xs.getD j .non) (xs.getD j .non)) = true := by
      rw [List.size_toArray, ← m1, eqLs_len rfl]
      exact eqLs_self fl
    rw [et]
    exact hq
def rNestEq (K : PySem.W.Frag) (v : Bool) : R2 := fun x y H Q => ∃ a b as bs, x = .ref a ∧ y = .ref b ∧ Nest K H a b as bs ∧ Q (.bl v) H
theorem all_true (n : Nat) : (List.range n).all (fun _ => true) = true := by
  rw [List.all_eq_true]; intro _ _; rfl
theorem op_eqN (hu : X.A.units + 1 < cLine) : OpR X (compareOp .Eq) (rNestEq X.K true) := by
  intro pins s σ H x y v u Q I rx ry h
  obtain ⟨a, b, as, bs, rfl, rfl, N, q⟩ := h
  cases rx
  cases ry
  obtain ⟨its, r, pl, hz⟩ := I.list N.l
  obtain ⟨its', r', pl', hz'⟩ := I.list N.r
  have l1 := r.length
  have l2 := r'.length
  rw [List.length_map] at l1 l2
  have hl := N.len
  refine SeqAt.eq_listAt (e := fun _ => true) pl.isList pl'.isList (by simp only [List.size_toArray]; omega) (by omega) (nest_at I N hu r r') ?_
  exact fin_bl I q (by rw [all_true])
theorem op_neN (hu : X.A.units + 1 < cLine) : OpR X (compareOp .NotEq) (rNestEq X.K false) := by
  intro pins s σ H x y v u Q I rx ry h
  obtain ⟨a, b, as, bs, rfl, rfl, N, q⟩ := h
  cases rx
  cases ry
  obtain ⟨its, r, pl, hz⟩ := I.list N.l
  obtain ⟨its', r', pl', hz'⟩ := I.list N.r
  have l1 := r.length
  have l2 := r'.length
  rw [List.length_map] at l1 l2
  have hl := N.len
  refine SeqAt.RcNeAt.lists (e := fun _ => true) pl.isList pl'.isList (by simp only [List.size_toArray]; omega) (by omega) (nest_at I N hu r r') _ _ _ _ ?_
  exact fin_bl I q (by rw [all_true]; rfl)
end
end L2

namespace L2
open PySem PySem.Spec PyProof.Rows
theorem rec_ok {P : Program} {w : World} {K : PySem.W.Frag} {mg : Str → Option Value} {base : Heap} {f : Addr} {fd : FuncData} {ps : List Str} {x : Str} {m : Nat} (sp : Nat → Sp) (h0 : ∀ vs H Q E, ¬ sp 0 vs H Q E)
    (hm : mg x = some (.ref f)) (hk : PySem.W.keepIn K (.ref f) = true) (hb : Binds K fd ps [])
    (step : ∀ n, Def P w K mg base (m + n) x ps (sp n) → FnOk P w K mg base CX0 (m + n + 1) f fd ps (sp (n + 1))) : ∀ n, FnOk P w K mg base CX0 (m + n) f fd ps (sp n)
  | 0 => ⟨fun vs H Q E h => absurd h (h0 vs H Q E), fun _ _ _ _ _ _ _ _ _ _ _ _ _ h => absurd h (h0 _ _ _ _)⟩
  | n + 1 => step n ⟨f, fd, rec_ok sp h0 hm hk hb step n, hm, hk, hb⟩
section
variable {X : Cx}
def rIndexV : V → List V → Hp → VK → Prop := fun x vs H Q => ∃ (l : Addr) (xs : List V) (y : V) (k : Nat), x = .ref l ∧ vs = [y] ∧ H l = some (.lst xs) ∧ xs.all flatV = true ∧ flatV y = true ∧ (∃ z, xs[k]? = some z ∧ eqV z y = true) ∧
  (∀ j z, j < k → xs[j]? = some z → eqV z y = false) ∧ Q (.int (k : Int)) H
theorem mt_indexV : MtM X "list.index" rIndexV := by
  intro pins s σ H x vs v us Q I rx rv h
  obtain ⟨l, xs, y, k, rfl, rfl, hH, fx, fy, ⟨z, hz, ez⟩, hlt, q⟩ := h
  cases rx
  obtain ⟨u, rfl, ru⟩ := rv.one
  obtain ⟨zl, its, n, r, hl, e⟩ := I.lstM hH
  have hlen := r.length
  have hn := line63
  have hk : k < xs.length := (List.getElem?_eq_some_iff.mp hz).1
  have at_ : ∀ j (hj : j < its.length), eqU y its[j] = eqV (xs[j]'(by omega)) y := fun j hj => by
    have hj' : j < xs.length := by omega
    obtain ⟨w', e', rw'⟩ := r.get (List.getElem?_eq_getElem hj')
    rw [List.getElem?_eq_getElem hj] at e'
    have ew : its[j] = w' := Option.some.inj e'
    rw [ew]
    exact eqU_of rw' (List.all_eq_true.mp fx _ (List.getElem_mem hj'))
  refine call_meets F.slot_list_index ⟨_, e, rfl⟩ F.entry_list_index (F.args_list_index_2 _ _)
    (SeqAt.list_indexAt l its.toArray n none #[] u (eqU y) k (by simpa [← hlen] using hk) (by omega) ?_ ?_) ⟨e, fun w hw => mem_eqAt ru fy r fx w (by simpa using hw), ?_⟩
  · show eqU y its[k] = true
    rw [at_ k (by omega)]
    rw [List.getElem?_eq_getElem hk] at hz
    rw [Option.some.inj hz]
    exact ez
  · intro j hjs hj
    show eqU y its[j] = false
    rw [at_ j (by simpa using hjs)]
    exact hlt j _ hj (List.getElem?_eq_getElem (by omega))
  · exact ⟨.int (k : Int), H, I.tok _, ⟨_, rfl⟩, q⟩
end
def plainV : V → Bool
  | .non => true
  | .int _ => true
  | _ => false
theorem plain_flat {x : V} (h : plainV x = true) : flatV x = true := by
  cases x <;> first | rfl | cases h
theorem plain_eqV {x y : V} (hx : plainV x = true) (hy : plainV y = true) : eqV x y = decide (x = y) := by
  cases x with
  | non => cases y with
    | non => rfl
    | int j => rfl
    | _ => cases hy
  | int i => cases y with
    | non => rfl
    | int j =>
      show (i == j) = _
      by_cases h : i = j
      · subst h
        rw [decide_eq_true rfl]
        exact beq_self_eq_true i
      · rw [decide_eq_false (fun z => h (V.int.inj z))]
        exact beq_eq_false_iff_ne.mpr h
    | _ => cases hy
  | _ => cases hx
theorem plain_all {xs : List V} (h : ∀ x ∈ xs, plainV x = true) : xs.all flatV = true := List.all_eq_true.mpr fun x hx => plain_flat (h x hx)
theorem cutV_nn (xs : List V) {f b : Nat} (h1 : f ≤ b) (h2 : b ≤ xs.length) : cutV xs (some (f : Int)) (some (b : Int)) = (xs.drop f).take (b - f) := by
  unfold cutV
  rw [HT.sIx_nat, HT.sIx_nat, Nat.min_eq_left (by omega), Nat.min_eq_left (by omega)]
theorem getElem?_part (xs : List V) {f b j : Nat} (h : j < b - f) : ((xs.drop f).take (b - f))[j]? = xs[f + j]? := by
  rw [List.getElem?_take_of_lt h, List.getElem?_drop]
theorem part_len (xs : List V) {f b : Nat} (h2 : b ≤ xs.length) : ((xs.drop f).take (b - f)).length = b - f := by
  rw [List.length_take, List.length_drop]; omega
theorem part_mem {xs : List V} {f b : Nat} {x : V} (h : x ∈ (xs.drop f).take (b - f)) : x ∈ xs := List.mem_of_mem_drop (List.mem_of_mem_take h)
end L2

namespace L2
open PySem PySem.Spec PyProof.Rows
section
variable {X : Cx}
def rAnyL (K : PySem.W.Frag) : List V → Hp → VK → Prop := fun xs H Q => ∃ (p : Addr) (bs : List Bool), xs = [.ref p] ∧ SqL K H p (bs.map V.bl) ∧ Q (.bl (bs.any id)) H
theorem any_range (bs : List Bool) : ((List.range bs.length).any fun i => bs.getD i false) = bs.any id := by
  rw [Bool.eq_iff_iff, List.any_eq_true, List.any_eq_true]
  constructor
  · rintro ⟨i, hi, e⟩
    have hi := List.mem_range.mp hi
    rw [List.getD_eq_getElem?_getD, List.getElem?_eq_getElem hi] at e
    exact ⟨bs[i], List.getElem_mem hi, e⟩
  · rintro ⟨b, hb, e⟩
    obtain ⟨i, hi, rfl⟩ := List.getElem_of_mem hb
    exact ⟨i, List.mem_range.mpr hi, by rw [List.getD_eq_getElem?_getD, List.getElem?_eq_getElem hi]; exact e⟩
theorem call_anyL (hc : X.calm = true) : CallR X (.builtin "any") (rAnyL X.K) := by
  intro pins s σ H xs us Q I r h
  obtain ⟨p, bs, rfl, hq, q⟩ := h
  obtain ⟨u, rfl, rx⟩ := vals1 r
  cases rx
  obtain ⟨its, r', pl, hz⟩ := I.list hq
  have hl := pl.isList
  have ltp : p < s.heap.objs.size := let ⟨o, z, _⟩ := hl; Heap.lt_size z
  have hlen := r'.length
  rw [List.length_map] at hlen
  have W := Walks.list (prog := X.prog) (w := X.w) (A := X.A.in1) (I.ok.hd hc) s.heap.objs.size p (Nat.ne_of_lt ltp) its.toArray
  refine call_any_walk (wpAny_pyIter_list hl ⟨s.heap.objs.size, _, _, _, _, _, fun i => bs.getD i false, rfl, W, ⟨⟨_, Heap.get?_push_size _ rfl, rfl, rfl⟩, hl.push _⟩, fun i v s' Q' E' hP hQ => ?_, fun h' tk hk => ?_⟩)
  · have hP' : its[i]? = some v := by simpa using hP
    have hi : i < bs.length := by rw [hlen]; exact (List.getElem?_eq_some_iff.mp hP').1
    obtain ⟨w', e', rw'⟩ := r'.get (show (bs.map V.bl)[i]? = some (V.bl bs[i]) by rw [List.getElem?_map, List.getElem?_eq_getElem hi]; rfl)
    rw [hP'] at e'
    have ew : v = w' := Option.some.inj e'
    subst ew
    rw [show v = Value.bool bs[i] from rw']
    have eb : bs.getD i false = bs[i] := by rw [List.getD_eq_getElem?_getD, List.getElem?_eq_getElem hi]; rfl
    have hQ : Q' (bs.getD i false) s' := hQ
    rw [eb] at hQ
    exact wpAny_truthy_bool hQ
  · have e : ((List.range its.toArray.size).any fun i => bs.getD i false) = bs.any id := by
      rw [List.size_toArray, ← hlen]
      exact any_range bs
    refine ⟨.bl (bs.any id), H, I.kept (fun b o z => hk b o (fun hm => ?_) (Heap.get?_push_of_some _ z)), ?_, q⟩
    · rw [List.mem_singleton.mp hm] at z
      exact Nat.lt_irrefl _ (Heap.lt_size z)
    · show Value.bool _ = _
      rw [e]
end
end L2

namespace L2
open PySem PySem.Spec PyProof.Rows
section
variable {X : Cx} {pins : List (Addr × Obj)} {σ : St} {H : Hp} {s : Shared} {h' : Heap} {e it a : Addr} {o : HO} {t' : Nat}
theorem Inv.turn2 (I : Inv X pins σ H s) (k : ∀ b u, b ≠ e → b ≠ it → s.heap.get? b = some u → h'.get? b = some u) (fe : FpOk X pins H e) (fi : FpOk X pins H it) (ha : s.heap.objs.size ≤ a) (new : ObjOk X.prog X.w (upd H a o) h' a o) :
    Inv X pins σ (upd H a o) { s with heap := h', toks := t' } := by
  have hn : H a = none := I.hok.fresh ha
  have kc : ∀ b u, b ∉ [e, it] → s.heap.get? b = some u → h'.get? b = some u := fun b u hb q => k b u (fun z => hb (by simp [z])) (fun z => hb (by simp [z])) q
  have ne : ∀ b u, s.heap.get? b = some u → b ≠ a := fun b u q => Nat.ne_of_lt (Nat.lt_of_lt_of_le (Heap.lt_size q) ha)
  have nt : ∀ b u, H b = some u → b ∉ [e, it] := fun b u q hm => by
    rcases List.mem_cons.mp hm with z | z
    · rw [z, fe.1] at q; cases q
    · rw [List.mem_singleton.mp z, fi.1] at q; cases q
  refine I.step (H' := upd H a o) (g' := s.gens) (d' := s.drawn) (ch := [e, it]) (fun b hb => ?_) (fun b u _ _ hc q _ => kc b u hc q) (fun b u _ _ hc q _ => ⟨u.slots, kc b u hc q⟩) (fun b u _ q n => by rw [upd_ne (ne b u q)]; exact n)
    (fun b u hc q => ⟨u, kc b u hc q⟩) (fun b xs q => by rw [upd_ne (ne_of_none q hn)]; exact q) (fun b u xs q => by rw [upd_ne (ne_of_none q hn)]; exact q) (fun b ps q => ⟨#[], by rw [upd_ne (ne_of_none q hn), q]; simp⟩) (fun m hm => ?_) (fun b u q => ?_) I.bare
  · rcases List.mem_cons.mp hb with z | z
    · subst z; exact ⟨fe.2.2.2.1, fe.2.1, fe.2.2.2.2.1, fe.2.2.2.2.2⟩
    · have z := List.mem_singleton.mp z
      subst z; exact ⟨fi.2.2.2.1, fi.2.1, fi.2.2.2.2.1, fi.2.2.2.2.2⟩
  · obtain ⟨ob, es, ep, ho, r⟩ := hm
    exact ⟨ob, es, ep, k _ ob (Ne.symm fe.2.1) (Ne.symm fi.2.1) ho, r⟩
  · by_cases hb : b = a
    · subst hb; rw [upd_same] at q; cases q; exact new
    · rw [upd_ne hb] at q
      refine (I.hok b u q).stay (fun c v hc r => kc c v ?_ r) (fun c r => by rw [upd_ne (ne_of_none r hn)]; exact r) fun c xs r => by rw [upd_ne (ne_of_none r hn)]; exact r
      rcases hc with z | z
      · rw [z]; exact nt b u q
      · exact nt c _ z
end
def Ite (K : PySem.W.Frag) (a : Addr) : It :=
  ⟨fun i H => ∃ xs x, SqL K H a xs ∧ xs[i]? = some x, fun i H v H' => ∃ t x, v = .ref t ∧ H t = none ∧ H' = upd H t (.tup [.int (i : Int), x]) ∧ ∀ xs, SqL K H a xs → xs[i]? = some x, fun i H => ∃ xs, SqL K H a xs ∧ xs.length ≤ i⟩
theorem turn_enum {P : Program} {w : World} {K : PySem.W.Frag} {elts : List Expr} {x1 : Nat} {pos : Pos} (a e it : Addr) (hne : e ≠ it) : Turn P w K (.Tuple elts x1 pos) (Ite K a) [e, it] e (fun i h => ∃ old, IsEnum h e it (i : Int) old ∧ h.IsListIter it a i) where
  mem := by simp
  obj := fun i h st b hb => by
    obtain ⟨old, he, o, ho, c, d⟩ := st
    rcases List.mem_cons.mp hb with z | z
    · subst z
      exact ⟨_, he, fun v z => by
        have z' : Data.fields _ = Data.cell v := z
        cases z'⟩
    · have z := List.mem_singleton.mp z
      subst z
      exact ⟨o, ho, fun v z => by rw [d] at z; cases z⟩
  keep := fun i h h' st k => by
    obtain ⟨old, he, hit⟩ := st
    exact ⟨old, k e (by simp) _ he, hit.at fun o q => k it (by simp) o q⟩
  item := by
    intro X hP hw hK hc i pins s σ H E I hf st hg
    subst hP hw hK
    obtain ⟨old, he, hit⟩ := st
    obtain ⟨xs, x, hq, hx⟩ := hg
    obtain ⟨its, rv, p, hz⟩ := I.list hq
    obtain ⟨u, hu, ru⟩ := rv.get hx
    refine wpAny_pyNext_enum_item he hit p.isList (x := u) (by simpa using hu) hne fun h1 heo hit1 ht1 hz1 hk1 => ⟨_, rfl, wpAny_letOwnedTupleGo_enum heo fun h2 he2 sb2 => ?_⟩
    have sb : Heap.SameBut e h1 h2 := sb2
    have lte : e < s.heap.objs.size := Heap.lt_size he
    have ht2 : h2.get? s.heap.objs.size = some { cls := .type "tuple", data := .seq #[.int i s.toks, u] } := (sb.2 _ (Nat.ne_of_gt lte)).trans ht1
    have k2 : ∀ b o, b ≠ e → b ≠ it → s.heap.get? b = some o → h2.get? b = some o := fun b o n1 n2 q => (sb.2 b n1).trans (hk1 b o n1 n2 q)
    have hfr : H s.heap.objs.size = none := I.hok.fresh (Nat.le_refl _)
    refine ⟨.ref s.heap.objs.size, upd H s.heap.objs.size (.tup [.int (i : Int), x]), I.turn2 k2 (hf e (by simp)) (hf it (by simp)) (Nat.le_refl _) ⟨(by show 2 ≤ sizeLine; decide), [.int i s.toks, u], .cons ⟨_, rfl⟩ (.cons ru .nil), ⟨_, ht2, rfl, _, rfl⟩⟩, rfl,
      ⟨_, x, rfl, hfr, rfl, fun ys hy => by rw [I.list_inj hy hq]; exact hx⟩, ⟨u, ?_, ?_⟩, fun b hb => ?_⟩
    · have e1 : ((i + 1 : Nat) : Int) = (i : Int) + 1 := by omega
      rw [e1]
      exact he2
    · exact hit1.at fun o q => (sb.2 it (Ne.symm hne)).trans q
    · have hb' : b ≠ s.heap.objs.size := by
        rcases List.mem_cons.mp hb with z | z
        · rw [z]; exact Nat.ne_of_lt lte
        · rw [List.mem_singleton.mp z]
          obtain ⟨o, ho, _⟩ := id hit
          exact Nat.ne_of_lt (Heap.lt_size ho)
      rw [upd_ne hb']
      exact (hf b hb).1
  done := by
    intro X hP hw hK hc i pins s σ H E I hf st hg
    subst hP hw hK
    obtain ⟨old, he, hit⟩ := st
    obtain ⟨xs, hq, hx⟩ := hg
    obtain ⟨its, rv, p, hz⟩ := I.list hq
    obtain ⟨f0, f1, f2, f3, f4, f5⟩ := hf it (by simp)
    have hl := rv.length
    exact wpAny_pyNext_enum_end (I.ok.hd hc) he hit p.isList (by simp; omega) fun h' eb => ⟨rfl, I.turned (t' := s.toks) (fun b o hb q => eb b o hb q) f0 f1 f3 f4 f5⟩
  self := fun _ _ _ _ _ st h => by
    obtain ⟨old, he, _⟩ := st
    exact wpAny_pyIter_enum he h
section
variable {X : Cx} {elts : List Expr} {x1 : Nat} {tpos : Pos}
def iEnum (K : PySem.W.Frag) (ta : TA) : TI := fun σ H R => ta σ H fun vs H1 => ∃ a, vs = [.ref a] ∧ (∃ xs, SqL K H1 a xs) ∧ R (Ite K a) H1
theorem pi_enum {l : Expr} {ta : TA} {p pos : Pos} (hg : Gl X "enumerate") (hm : X.mg "enumerate" = none) (ha : PA X [l] ta) (hs : starEach [l] X.env = [(false, eval l X.env)] := by rfl) : PI X (.Tuple elts x1 tpos) (.Call (.Name "enumerate" p) [l] [] pos) (iEnum X.K ta) := by
  intro pins s σ H R I h
  refine Call_ (ld_blt I hg hm boot_enumerate (PyProof.Rows.callWith_type1 (thn (ha pos pins s σ H _ I h) fun us s1 ⟨vs, H1, I1, r1, q1⟩ => ?_) hs rfl))
  obtain ⟨a, e, ⟨xs, hq⟩, q⟩ := q1
  subst e
  cases r1 with
  | cons r rr =>
    cases rr
    cases r
    obtain ⟨its, rv, pl, hz⟩ := I1.list hq
    refine call_enumerate_list pl.isList fun h' he hit hsz hk => ?_
    have I2 : Inv X pins σ H1 { s1 with heap := h' } := I1.kept (t' := s1.toks) hk
    refine wpAny_pyIter_enum he ⟨_, [s1.heap.objs.size + 1, s1.heap.objs.size], _, Ite X.K a, H1, rfl, I2, turn_enum a _ s1.heap.objs.size (Nat.succ_ne_self _), ⟨.none, he, hit⟩, fun b hb => ?_, q⟩
    have hb' : s1.heap.objs.size ≤ b := by
      rcases List.mem_cons.mp hb with z | z
      · rw [z]; exact Nat.le_succ _
      · rw [List.mem_singleton.mp z]; exact Nat.le_refl _
    have fo := I1.fpOk (H' := H1) hb' (I1.hok.fresh hb')
    exact ⟨fo.1, fo.2.1, fo.2.2.1, fo.2.2.2.1, fo.2.2.2.2.1, fo.2.2.2.2.2⟩
theorem for_enum {K : PySem.W.Frag} {a : Addr} {xs : List V} {g : TG} {tb : TS} {D : Ends} {σ : St} {H : Hp} (Pv : Nat → St → Hp → Prop) (h0 : Pv 0 σ H) (hl : ∀ i σ H, i ≤ xs.length → Pv i σ H → SqL K H a xs)
    (hs : ∀ i x σ H t, xs[i]? = some x → Pv i σ H → H t = none → g (.ref t) σ (upd H t (.tup [.int (i : Int), x])) fun σ2 H2 => tb { D with nx := Pv (i + 1), ct := Pv (i + 1), bk := D.nx } σ2 H2) (hd : ∀ σ H, Pv xs.length σ H → D.nx σ H) :
    ∃ W : Nat → Nat → St → Hp → Prop, (∃ m, W 0 m σ H) ∧ ∀ i m σ H, W i m σ H →
      ((Ite K a).stop i H ∧ D.nx σ H) ∨ ((Ite K a).go i H ∧ ∃ N : St → Hp → Prop, (∀ σ' H', N σ' H' → ∃ m', m' < m ∧ W (i + 1) m' σ' H') ∧ ∀ x H', (Ite K a).yld i H x H' → g x σ H' fun σ2 H2 => tb { D with nx := N, ct := N, bk := D.nx } σ2 H2) := by
  refine ⟨fun i m σ H => m = xs.length - i ∧ i ≤ xs.length ∧ Pv i σ H, ⟨xs.length, by simp, Nat.zero_le _, h0⟩, ?_⟩
  rintro i m σ H ⟨rfl, hi, p⟩
  have q := hl i σ H hi p
  by_cases hlt : i < xs.length
  · refine .inr ⟨⟨xs, xs[i], q, by simp [hlt]⟩, Pv (i + 1), fun σ' H' p' => ⟨xs.length - (i + 1), by omega, rfl, hlt, p'⟩, fun v H' y => ?_⟩
    obtain ⟨t, x, e1, ht, e2, y⟩ := y
    subst e1
    subst e2
    exact hs i x σ _ t (y xs q) p ht
  · have e : i = xs.length := by omega
    subst e
    exact .inl ⟨⟨xs, q, Nat.le_refl _⟩, hd σ H p⟩
end
section
variable {X : Cx}
def CMulM (i j : Int) : Prop := i.natAbs < 2 ^ 250 ∧ j.natAbs < 2 ^ 250
theorem bits_le {i : Int} (h : i.natAbs < 2 ^ 250) : Builtin.Int.intBits i ≤ 2 ^ 20 := by
  unfold Builtin.Int.intBits
  split
  · exact Nat.zero_le _
  · rename_i hz
    have h0 : i.natAbs ≠ 0 := by
      intro z
      apply hz
      have : i = 0 := by omega
      rw [this]
      rfl
    have := (Nat.log2_lt h0).mpr h
    have e : (250 : Nat) ≤ 2 ^ 20 := by decide
    omega
theorem op_mulM : OpR X (binaryOp .Mult) (rI CMulM fun i j => .int (i * j)) := opI fun _ _ _ _ _ _ _ hc q => mul_int q (IntMulOk.of_bits (bits_le hc.1) (bits_le hc.2))
end
end L2

namespace L2
open PySem PySem.Spec PyProof.Rows
structure Trc (h : Heap) (e T : Addr) (cls : Value) : Prop where
  ex : ∃ oe vs oT ts, h.get? e = some oe ∧ oe.cls = cls ∧ oe.data = .fields vs ∧ vs[1]? = some (.ref T) ∧ T ≠ e ∧ h.get? T = some oT ∧ oT.data = .fields ts ∧ ts[3]? = some .none
def CXE (P : Program) (w : World) : CXT := fun outer H s E e s' => ∃ (a T : Addr) (H' : Hp) (cls : Value), e = .ref a ∧ s'.os = s.os ∧ AllBare s'.gens ∧ Un (frs outer) [] H H' s.heap s'.heap ∧ HOk P w H' s'.heap ∧
  s.heap.get? a = none ∧ s.heap.get? T = none ∧ H' a = none ∧ H' T = none ∧ Trc s'.heap a T cls ∧ E cls none H'
theorem ObjOk.some {P : Program} {w : World} {H : Hp} {h : Heap} {a : Addr} {o : HO} (x : ObjOk P w H h a o) : ∃ ob, h.get? a = some ob := by
  cases o with
  | lst xs => obtain ⟨_, _, _, _, e⟩ := x; exact ⟨_, e⟩
  | tup xs => obtain ⟨_, _, _, ob, e, _⟩ := x; exact ⟨_, e⟩
  | dK kvs => obtain ⟨_, _, _, _, o, _, _, e, _⟩ := x; exact ⟨_, e⟩
  | dT kvs => obtain ⟨_, _, _, _, o, _, _, e, _⟩ := x; exact ⟨_, e⟩
  | set S n => obtain ⟨o, _, _, _, e, _⟩ := x; exact ⟨_, e⟩
  | ins C dx fs => obtain ⟨_, _, _, e, _⟩ := x; exact ⟨_, e⟩
  | own y => obtain ⟨_, e⟩ := x; exact ⟨_, e⟩
  | xd fs => obtain ⟨_, ⟨_, _, _, e, _⟩, _⟩ := x; exact ⟨_, e⟩
  | rng lo hi => obtain ⟨_, _, _, e⟩ := x; exact ⟨_, e⟩
  | frz ob u => obtain ⟨e, _⟩ := x; exact ⟨_, e⟩
  | tbl ps => exact ⟨_, show h.get? a = Option.some _ from x⟩
  | met f y => exact ⟨_, show h.get? a = Option.some _ from x⟩
  | ext φ => obtain ⟨_, ⟨_, e⟩, _⟩ := x; exact ⟨_, e⟩
theorem HOk.nil_of {P : Program} {w : World} {H : Hp} {h : Heap} {a : Addr} (x : HOk P w H h) (e : h.get? a = none) : H a = none := by
  cases q : H a with
  | none => rfl
  | some o =>
    obtain ⟨ob, z⟩ := (x a o q).some
    rw [e] at z; cases z
theorem funs_hide {B h : Heap} {as : List Addr} : ∀ {l : List Env}, h.FunFrames B l → (∀ b ∈ frs l, b ∈ as) → h.FunFrames (PySem.W.hideAll h as) l
  | [], _, _ => trivial
  | env :: l, ⟨hk, ⟨L, o, hf, _, ho, hd⟩, hr⟩, hin => by
    have e : frs (env :: l) = L :: frs l := by unfold frs; rw [List.filterMap_cons, hf]
    exact ⟨hk, ⟨L, o, hf, PySem.W.hideAll_none _ (hin L (by rw [e]; exact .head _)), ho, hd⟩, funs_hide hr fun b hb => hin b (by rw [e]; exact .tail _ hb)⟩
theorem funs_more {B h h' : Heap} {l : List Env} (x : h.FunFrames B l) (k : ∀ b o, h.get? b = some o → h'.get? b = some o) : h'.FunFrames B l := x.of_keeps fun b o q _ => ⟨o, k b o q, rfl⟩
structure Noted (g h : Heap) (fs no : List Addr) (e T : Addr) (cls : Value) : Prop where
  keep : ∀ b o, g.get? b = some o → b ∉ fs → b ∉ no → h.get? b = some o
  slot : ∀ b o, g.get? b = some o → b ∈ fs → ∃ sl, h.get? b = some { o with slots := sl }
  trc : Trc h e T cls
  new : T ∈ no ∨ g.get? T = none
section
variable {M : Model} {A : Around} {E : Value → Shared → Prop} {s : Shared} {env : Env} {outer : List Env} {L e : Addr} {Q : Unit → Shared → Prop}
theorem noted_of {g h1 h2 B : Heap} {no : List Addr} {cls : Value} (kg : ∀ b o, g.get? b = some o → b ∉ no → h1.get? b = some o) (hB : ∀ b o, g.get? b = some o → b ∉ frs (env :: outer) → b ∉ no → B.get? b = some o)
    (hF : g.FunFrames B (env :: outer)) (nf : ∀ b ∈ frs (env :: outer), b ∉ no) (x : Heap.Left B (env :: outer) e cls h1 h2) : ∃ T, Noted g h2 (frs (env :: outer)) no e T cls := by
  obtain ⟨x1, x2, ⟨oe, vs, T, oT, ts, a1, a2, a3, a4, a5, a6, a7, a8, a9⟩, x4⟩ := x
  refine ⟨T, ⟨fun b o q n1 n2 => x1 b o (hB b o q n1 n2), fun b o q hb => ?_, ⟨oe, vs, oT, ts, a1, a2, a3, a4, a6, a7, a8, a9⟩, ?_⟩⟩
  · obtain ⟨_, o', ho', hd'⟩ := hF.mem hb
    rw [q] at ho'
    cases ho'
    exact x4 b o (kg b o q (nf b hb)) hd'
  · by_cases hn : T ∈ no
    · exact .inl hn
    · right
      cases q : g.get? T with
      | none => rfl
      | some o =>
        by_cases hm : T ∈ frs (env :: outer)
        · obtain ⟨_, o', ho', hd'⟩ := x2.mem hm
          rw [a7] at ho'
          cases ho'
          exact absurd a8 (hd' ts)
        · rw [hB T o q hm hn] at a5
          cases a5
theorem leave_new1 {g B : Heap} {cls : Value} {us : List Value} (hfr : A.frames = some (env :: outer)) (hf : env.frame = some L) (hF : g.FunFrames B (env :: outer)) (hx : Heap.MadeExcOf g s.heap e cls us)
    (q : ∀ h T, Noted g h (frs (env :: outer)) [] e T cls → Q () { s with heap := h }) : wpAny M A (leaving env (.ref e)) Q E s := by
  obtain ⟨t, he, _, _⟩ := hx.there
  have hF' := funs_hide (as := frs (env :: outer)) hF fun b hb => hb
  refine wpAny_leaving_first (base := PySem.W.hideAll g (frs (env :: outer))) hfr (funs_more hF' hx.keeps) hf he (fun b o z => hx.keeps b o (PySem.W.of_hideAll _ z)) ?_ rfl rfl fun h x => ?_
  · cases z : (PySem.W.hideAll g (frs (env :: outer))).get? e with
    | none => rfl
    | some o => have := PySem.W.of_hideAll _ z; rw [hx.new] at this; cases this
  · obtain ⟨T, N⟩ := noted_of (g := g) (no := []) (fun b o z _ => hx.keeps b o z) (fun b o z n1 _ => PySem.W.hideAll_get _ z n1) hF' (fun _ _ z => nomatch z) x
    exact q h T N
theorem note_next {T : Addr} {B : Heap} {cls : Value} (hfr : A.frames = some (env :: outer)) (hf : env.frame = some L) (hF : s.heap.FunFrames B (env :: outer)) (ht : Trc s.heap e T cls)
    (q : ∀ h T', Noted s.heap h (frs (env :: outer)) [e, T] e T' cls → Q () { s with heap := h }) : wpAny M A (noteFrame (.ref e) env) (fun _ s2 => wpAny M A (setFlight (.ref e) none) Q E s2) E s := by
  obtain ⟨oe, vs, oT, ts, a1, a2, a3, a4, a5, a6, a7, a8⟩ := ht.ex
  subst a2
  have ne : ∀ b ∈ frs (env :: outer), b ∉ [e, T] := fun b hb hm => by
    obtain ⟨_, o, ho, hd⟩ := hF.mem hb
    rcases List.mem_cons.mp hm with z | z
    · rw [z, a1] at ho; cases ho; exact hd vs a3
    · rw [List.mem_singleton.mp z, a6] at ho; cases ho; exact hd ts a7
  have hF' := funs_hide (as := e :: T :: frs (env :: outer)) hF fun b hb => .tail _ (.tail _ hb)
  have oth : ∀ b, b ≠ T → (s.heap.update T (Obj.mapFields (·.setIfInBounds 3 Value.none))).get? b = s.heap.get? b := fun b hb => Heap.get?_update_other _ _ (Ne.symm hb)
  have hid : ∀ b o, (PySem.W.hideAll s.heap (e :: T :: frs (env :: outer))).get? b = some o → s.heap.get? b = some o ∧ b ≠ T ∧ b ≠ e := fun b o z => by
    refine ⟨PySem.W.of_hideAll _ z, fun y => ?_, fun y => ?_⟩
    · subst y; rw [PySem.W.hideAll_none _ (.tail _ (.head _))] at z; cases z
    · subst y; rw [PySem.W.hideAll_none _ (.head _)] at z; cases z
  have hFu : (s.heap.update T (Obj.mapFields (·.setIfInBounds 3 Value.none))).FunFrames (PySem.W.hideAll s.heap (e :: T :: frs (env :: outer))) (env :: outer) := hF'.of_keeps fun b o z hd => ⟨o, (oth b (fun y => by subst y; rw [a6] at z; cases z; exact hd ts a7)).trans z, rfl⟩
  have hT : (Value.ref T != Value.none) = true := by simp
  have hL : ¬ ((Value.none == rawInt L) = true) := by simp [rawInt]
  have fin : ∀ h2, Heap.Left (PySem.W.hideAll s.heap (e :: T :: frs (env :: outer))) (env :: outer) e oe.cls (s.heap.update T (Obj.mapFields (·.setIfInBounds 3 Value.none))) h2 → Q () { s with heap := h2 } := fun h2 x => by
    obtain ⟨T', N⟩ := noted_of (g := s.heap) (no := [e, T]) (fun b o z hn => (oth b fun y => hn (by simp [y])).trans z) (fun b o z n1 n2 => PySem.W.hideAll_get _ z fun hm => by
      rcases List.mem_cons.mp hm with y | hm
      · exact n2 (by simp [y])
      · rcases List.mem_cons.mp hm with y | hm
        · exact n2 (by simp [y])
        · exact n1 hm) hF' ne x
    exact q h2 T' N
  unfold noteFrame
  simp only [hf]
  refine wpAny_bind (wpAny_field a1 a3 a4 ?_)
  rw [if_pos hT]
  refine wpAny_bind (wpAny_field a6 a7 a8 ?_)
  rw [if_neg hL]
  refine wpAny_bind (wpAny_setField a6 a7 (Array.getElem?_eq_some_iff.mp a8).1 ?_)
  refine wpAny_newEntry (base := PySem.W.hideAll s.heap (e :: T :: frs (env :: outer))) hfr hFu hf ((oth e (Ne.symm a5)).trans a1) (fun b o z => (oth b (hid b o z).2.1).trans (hid b o z).1) (PySem.W.hideAll_none _ (.head _)) a3 (Array.getElem?_eq_some_iff.mp a4).1 fin
theorem leave_next {T : Addr} {B : Heap} {cls : Value} (hfr : A.frames = some (env :: outer)) (hf : env.frame = some L) (hF : s.heap.FunFrames B (env :: outer)) (ht : Trc s.heap e T cls)
    (q : ∀ h T', Noted s.heap h (frs (env :: outer)) [e, T] e T' cls → Q () { s with heap := h }) : wpAny M A (leaving env (.ref e)) Q E s := by
  unfold leaving
  exact wpAny_bind (note_next hfr hf hF ht q)
end
section
variable {X : Cx} {pins : List (Addr × Obj)} {σ : St} {H : Hp} {s : Shared}
structure Own (X : Cx) : Prop where
  stk : X.stack = X.env :: X.outer
  fr : X.env.frame = some X.env.locals
  ex : X.ex = []
theorem hok_noted {P : Program} {w : World} {H : Hp} {g h : Heap} {fs no : List Addr} {e T : Addr} {cls : Value} (x : HOk P w H g) (N : Noted g h fs no e T cls) (hf : ∀ b ∈ fs, H b = none) (hn : ∀ b ∈ no, H b = none) : HOk P w H h := fun b u q => by
  refine (x b u q).stay (fun c v hc r => N.keep c v r (fun z => ?_) (fun z => ?_)) (fun _ q => q) fun _ _ q => q
  · have := hf c z
    rcases hc with y | y
    · rw [y, q] at this; cases this
    · rw [y] at this; cases this
  · have := hn c z
    rcases hc with y | y
    · rw [y, q] at this; cases this
    · rw [y] at this; cases this
theorem raise_out {P : Program} {w : World} {E : XK} {a : Addr} {cls : Value} {us : List Value} {h1 : Heap} (O : Own X) (hP : X.prog = P) (hw : X.w = w) (I : Inv X pins σ H s) (hx : Heap.MadeExcOf s.heap h1 a cls us) (hE : E cls none H) :
    wpAny (model P w) X.A (leaving X.env (.ref a)) (fun _ s2 => CXE P w X.outer X.H₀ X.s₀ E (.ref a) s2) (fun e' s2 => CXE P w X.outer X.H₀ X.s₀ E e' s2) { s with heap := h1 } := by
  subst hP hw
  have hst := I.stack
  rw [O.stk] at hst
  refine leave_new1 (s := { s with heap := h1 }) (by rw [← O.stk]; exact I.ok.frames) O.fr hst hx fun h T N => ?_
  have hfs : frs (X.env :: X.outer) = X.env.locals :: X.fs := by unfold frs; rw [List.filterMap_cons, O.fr]; rfl
  have hfree : ∀ b ∈ frs (X.env :: X.outer), H b = none := by rw [← O.stk]; exact I.stkFree
  have noex : ∀ b : Addr, b ∉ X.ex := fun b z => by rw [O.ex] at z; cases z
  have none0 : ∀ b, s.heap.get? b = none → X.s₀.heap.get? b = none := fun b z => by
    cases q : X.s₀.heap.get? b with
    | none => rfl
    | some o =>
      obtain ⟨o', e⟩ := I.base.there b o q (noex b)
      rw [z] at e; cases e
  have nT : s.heap.get? T = none := by
    rcases N.new with z | z
    · cases z
    · exact z
  have neL : ∀ b o, X.s₀.heap.get? b = some o → b ≠ X.env.locals := fun b o e => Nat.ne_of_lt (Nat.lt_of_lt_of_le (Heap.lt_size e) I.ok.above)
  refine ⟨a, T, H, cls, rfl, I.os, I.bare, ⟨fun b o e n hb _ => ?_, fun b o e n hb _ => ?_, fun b o e n _ => I.base.free b o e n (noex b), fun b o e _ => ?_, I.base.tups, I.base.frzs, I.base.tbls⟩,
    hok_noted I.hok N hfree (fun _ z => nomatch z), none0 a hx.new, none0 T nT, I.hok.nil_of hx.new, I.hok.nil_of nT, N.trc, hE⟩
  · refine N.keep b o (I.base.keep b o e n hb (noex b)) ?_ (fun z => nomatch z)
    rw [hfs]
    intro z
    rcases List.mem_cons.mp z with y | y
    · exact neL b o e y
    · exact hb y
  · obtain ⟨sl, e1⟩ := I.base.slot b o e n hb (noex b)
    obtain ⟨sl', e2⟩ := N.slot b _ e1 (by rw [hfs]; exact .tail _ hb)
    exact ⟨sl', e2⟩
  · obtain ⟨o', e1⟩ := I.base.there b o e (noex b)
    by_cases hb : b ∈ frs (X.env :: X.outer)
    · obtain ⟨sl, e2⟩ := N.slot b _ e1 hb
      exact ⟨_, e2⟩
    · exact ⟨o', N.keep b o' e1 hb (fun z => nomatch z)⟩
theorem funs_un {S : List Addr} {H H' : Hp} {B h h' : Heap} (un : Un S [] H H' h h') : ∀ {l : List Env}, (∀ b ∈ frs l, H b = none ∧ b ∈ S) → h.FunFrames B l → h'.FunFrames B l
  | [], _, _ => trivial
  | env :: l, hb, ⟨hk, ⟨L, o, hf, hn, ho, hd⟩, hr⟩ => by
    have e : frs (env :: l) = L :: frs l := by unfold frs; rw [List.filterMap_cons, hf]
    obtain ⟨h1, h2⟩ := hb L (by rw [e]; exact .head _)
    obtain ⟨sl, q⟩ := un.slot L o ho h1 h2 (by simp)
    exact ⟨hk, ⟨L, _, hf, hn, q, hd⟩, funs_un un (fun b z => hb b (by rw [e]; exact .tail _ z)) hr⟩
theorem frames_after {s' : Shared} {H' : Hp} (I : Inv X pins σ H s) (un : Un (frs X.stack) [] H H' s.heap s'.heap) : s'.heap.FunFrames X.base X.stack :=
  funs_un un (fun b hb => ⟨I.stkFree b hb, hb⟩) I.stack
theorem un_noted {fs : List Addr} {H H' : Hp} {g h h2 : Heap} {a T T' : Addr} {cls : Value} (un : Un fs [] H H' g h) (N : Noted h h2 fs [a, T] a T' cls) (ha : g.get? a = none) (hT : g.get? T = none) : Un fs [] H H' g h2 := by
  have nn : ∀ b o, g.get? b = some o → b ∉ [a, T] := fun b o e hm => by
    rcases List.mem_cons.mp hm with z | z
    · rw [z, ha] at e; cases e
    · rw [List.mem_singleton.mp z, hT] at e; cases e
  refine ⟨fun b o e n hb _ => N.keep b o (un.keep b o e n hb (by simp)) hb (nn b o e), fun b o e n hb _ => ?_, un.free, fun b o e _ => ?_, un.tups, un.frzs, un.tbls⟩
  · obtain ⟨sl, e1⟩ := un.slot b o e n hb (by simp)
    obtain ⟨sl', e2⟩ := N.slot b _ e1 hb
    exact ⟨sl', e2⟩
  · obtain ⟨o', e1⟩ := un.there b o e (by simp)
    by_cases hb : b ∈ fs
    · obtain ⟨sl, e2⟩ := N.slot b _ e1 hb
      exact ⟨_, e2⟩
    · exact ⟨o', N.keep b o' e1 hb (nn b o e)⟩
theorem pass_out {P : Program} {w : World} {E : XK} {e : Value} {s' : Shared} (O : Own X) (hP : X.prog = P) (hw : X.w = w) (I : Inv X pins σ H s) (hx : CXE P w X.stack H s E e s') :
    wpAny (model P w) X.A (leaving X.env e) (fun _ s2 => CXE P w X.outer X.H₀ X.s₀ E e s2) (fun e' s2 => CXE P w X.outer X.H₀ X.s₀ E e' s2) s' := by
  subst hP hw
  obtain ⟨a, T, H', cls, rfl, os, bare, un, hok, na, nT, ha, hT, tr, hE⟩ := hx
  have hst := frames_after I un
  rw [O.stk] at hst un
  refine leave_next (by rw [← O.stk]; exact I.ok.frames) O.fr hst tr fun h T' N => ?_
  have hfs : frs (X.env :: X.outer) = X.env.locals :: X.fs := by unfold frs; rw [List.filterMap_cons, O.fr]; rfl
  have un2 := un_noted un N na nT
  have noex : ∀ b : Addr, b ∉ X.ex := fun b z => by rw [O.ex] at z; cases z
  have none0 : ∀ b, s.heap.get? b = none → X.s₀.heap.get? b = none := fun b z => by
    cases q : X.s₀.heap.get? b with
    | none => rfl
    | some o =>
      obtain ⟨o', e⟩ := I.base.there b o q (noex b)
      rw [z] at e; cases e
  have nT' : s.heap.get? T' = none ∧ H' T' = none := by
    rcases N.new with z | z
    · rcases List.mem_cons.mp z with y | y
      · exact ⟨by rw [y]; exact na, by rw [y]; exact ha⟩
      · rw [List.mem_singleton.mp y]; exact ⟨nT, hT⟩
    · refine ⟨?_, hok.nil_of z⟩
      cases q : s.heap.get? T' with
      | none => rfl
      | some o =>
        obtain ⟨o', e⟩ := un.there T' o q (by simp)
        rw [z] at e; cases e
  have hfree : ∀ b ∈ frs (X.env :: X.outer), H' b = none := fun b hb => by
    have hb' : b ∈ frs X.stack := by rw [O.stk]; exact hb
    obtain ⟨_, o, ho, _⟩ := I.stack.mem hb'
    exact un.free b o ho (I.stkFree b hb') (by simp)
  have neL : ∀ b o, X.s₀.heap.get? b = some o → b ≠ X.env.locals := fun b o e => Nat.ne_of_lt (Nat.lt_of_lt_of_le (Heap.lt_size e) I.ok.above)
  refine ⟨a, T', H', cls, rfl, os.trans I.os, bare, ⟨fun b o e n hb _ => ?_, fun b o e n hb _ => ?_, fun b o e n _ => ?_, fun b o e _ => ?_, fun b xs e => un.tups b xs (I.base.tups b xs e), fun b o u e => un.frzs b o u (I.base.frzs b o u e), fun b ps e => ?_⟩,
    hok_noted hok N hfree (fun b hb => ?_), none0 a na, none0 T' nT'.1, ha, nT'.2, N.trc, hE⟩
  · refine un2.keep b o (I.base.keep b o e n hb (noex b)) (I.base.free b o e n (noex b)) ?_ (by simp)
    rw [hfs]
    intro z
    rcases List.mem_cons.mp z with y | y
    · exact neL b o e y
    · exact hb y
  · obtain ⟨sl, e1⟩ := I.base.slot b o e n hb (noex b)
    obtain ⟨sl', e2⟩ := un2.slot b _ e1 (I.base.free b o e n (noex b)) (by rw [hfs]; exact .tail _ hb) (by simp)
    exact ⟨sl', e2⟩
  · obtain ⟨o', e1⟩ := I.base.there b o e (noex b)
    exact un2.free b o' e1 (I.base.free b o e n (noex b)) (by simp)
  · obtain ⟨o', e1⟩ := I.base.there b o e (noex b)
    exact un2.there b o' e1 (by simp)
  · obtain ⟨m1, e1⟩ := I.base.tbls b ps e
    obtain ⟨m2, e2⟩ := un.tbls b _ e1
    exact ⟨m1 ++ m2, by rw [e2, Array.append_assoc]⟩
  · rcases List.mem_cons.mp hb with y | y
    · rw [y]; exact ha
    · rw [List.mem_singleton.mp y]; exact hT
end
section
variable {P : Program} {w : World} {K : PySem.W.Frag} {mg : Str → Option Value} {base : Heap} {N : List Str} {qual : Str} {scope : Scope} {f : Addr} {cd : Value} {A : Around} {outer : List Env} {s : Shared} {H : Hp} {E : XK}
theorem own_cx : Own (cxOf (CXE P w) P w K mg base N qual scope f cd A outer s H E) := ⟨rfl, rfl, rfl⟩
theorem pass_body : Passes (CXE P w) (cxOf (CXE P w) P w K mg base N qual scope f cd A outer s H E) E := fun pins σ H1 s1 e s' I h => pass_out own_cx rfl rfl I h
end
abbrev bmV : List Value := [.type "ValueError", .type "Exception", .type "BaseException", .type "object"]
abbrev newV : String := "ValueError.__new__"
theorem own_in {K : PySem.W.Frag} {h : Heap} {mg : Str → Option Value} {x : Str} {C : Addr} (KX : K.In h) (hm : mg x = some (.ref C)) (q : PySem.W.excIn K C bmV newV = true) : OwnCls x C bmV newV mg h := by
  refine ⟨hm, ?_⟩
  unfold PySem.W.excIn at q
  split at q
  case h_2 => cases q
  case h_1 dd cd sl ho =>
  split at q
  case h_2 => cases q
  case h_1 C' bm k0 k1 k2 k3 n k5 hmr hs =>
  rw [Bool.and_eq_true, Bool.and_eq_true, Bool.and_eq_true, Bool.and_eq_true, Bool.and_eq_true, beq_iff_eq, beq_iff_eq, beq_iff_eq, Bool.not_eq_true'] at q
  obtain ⟨⟨⟨⟨⟨q1, q2⟩, q3⟩, q4⟩, q5⟩, q6⟩ := q
  subst q1 q2
  rcases cd with ⟨nm, bs, mro, ns, qn, hd, sn, sub, ab, col, del⟩
  have hmr : mro = .ref C' :: bm := hmr
  have q3 : del = false := q3
  subst hmr q3
  have es : sl = #[k0, k1, k2, k3, some (.builtin newV), k5] := by rcases sl with ⟨l⟩; exact congrArg Array.mk hs
  subst es
  exact ⟨bm, ns, nm, qn, bs, hd, sn, sub, ab, col, dd, k0, k1, k2, k3, k5, _, KX _ _ ho, .of_isNs (PySem.W.isNs_of_in KX q5), PySem.W.nsMap_none_of_in KX q5 q6, PySem.W.tail_of_in KX q4⟩
section
variable {X : Cx} {x : Str} {C : Addr} {e₀ : Expr} {rest : List Expr} {ta : TA} {np cpos pos : Pos}
def tRaise (E : XK) (C : Addr) (ta : TA) : TS := fun _ σ H => ta σ H fun vs H1 => vs.length ≤ sizeLine ∧ E (.ref C) none H1
theorem ps_raise {E : XK} (hc : X.calm = true) (hg : Gl X x) (hm : X.mg x = some (.ref C)) (q : PySem.W.excIn X.K C bmV newV = true) (ha : PA X (e₀ :: rest) ta)
    (hx : ∀ (pins : List (Addr × Obj)) (σ : St) (H : Hp) (s : Shared) (a : Addr) (h1 : Heap) (us : List Value), Inv X pins σ H s → Heap.MadeExcOf s.heap h1 a (.ref C) us → E (.ref C) none H → X.xe (.ref a) { s with heap := h1 })
    (he : starEach (e₀ :: rest) X.env = (false, eval e₀ X.env) :: starEach rest X.env := by rfl) (hpl : (backTo cpos (starEach rest X.env)).any (·.1) = false := by rfl) (hd : (x == ("__debug__" : Str)) = false := by decide) :
    PS X (.Raise (some (.Call (.Name x np) (e₀ :: rest) [] cpos)) none pos) (tRaise E C ta) := by
  intro pins s σ H D I h
  obtain ⟨tl, N, nm, qn, bs, hdct, sn, sub, ab, col, dd, k0, k1, k2, k3, k5, mN, hC, hN, hni, T⟩ := (own_in (x := x) I.ok.mod.kin hm q).obj
  have FB := PySem.F.excBase_ValueError
  refine wpAny_Raise_call_subT (N := N) (nm := nm) (q := qn) (bs := bs) (hdct := hdct) (sn := sn) (sub := sub) (ab := ab) (col := col) (dd := dd) (k0 := k0) (k1 := k1) (k2 := k2) (k3 := k3) (k5 := k5) FB (mN := mN) (T.hasType FB.hasBase) (I.ok.hd hc)
    (by rw [he]; show (false || (backTo cpos (starEach rest X.env)).any (·.1)) = false; rw [hpl]; rfl) hni (ld_glob I hg hm ⟨rfl, ?_⟩ hd)
  have h2 := ha cpos pins s σ H _ I h
  rw [he] at h2 ⊢
  refine Calls.evalArgs_plain (thn h2 fun us s1 ⟨vs, H1, I1, r1, hz, hE⟩ => ⟨rfl, ?_, I1.bk _ _ hC, hN.keeps I1.bk, T.keeps I1.bk, fun h1 a hx1 => hx pins σ H1 s1 a h1 us I1 hx1 hE⟩)
  rw [← r1.length]
  exact hz
end
theorem raise_body {P : Program} {w : World} {K : PySem.W.Frag} {mg : Str → Option Value} {base : Heap} {N : List Str} {qual : Str} {scope : Scope} {f : Addr} {cd : Value} {A : Around} {outer : List Env} {s : Shared} {H : Hp} {E : XK} {C : Addr}
    (pins : List (Addr × Obj)) (σ : St) (H1 : Hp) (s1 : Shared) (a : Addr) (h1 : Heap) (us : List Value) (I : Inv (cxOf (CXE P w) P w K mg base N qual scope f cd A outer s H E) pins σ H1 s1) (hx : Heap.MadeExcOf s1.heap h1 a (.ref C) us) (hE : E (.ref C) none H1) :
    (cxOf (CXE P w) P w K mg base N qual scope f cd A outer s H E).xe (.ref a) { s1 with heap := h1 } := raise_out own_cx rfl rfl I hx hE
theorem Fun.okX {P : Program} {w : World} {K : PySem.W.Frag} {mg : Str → Option Value} {base : Heap} {x qual : Str} {st : Stmt} {f : Addr} {fd : FuncData} {N ps : List Str} {k : Nat} {sp : Sp} (F : Fun K x qual st f fd) (S : FnScope N ps (defScope st)) (len : ∀ vs H Q E, sp vs H Q E → vs.length = ps.length)
    (hbody : ∀ (cdv : Value) (A : Around) (outer : List Env) (s : Shared) (H : Hp) (vs : List V) (Q : VK) (E : XK), Room k (A.deeper (envOfC qual (defScope st) s.heap.objs.size f cdv)) → sp vs H Q E →
      ∃ t, PSs (cxOf (CXE P w) P w K mg base N qual (defScope st) f cdv A outer s H E) (defBody st) t ∧ t { nx := fun _ H' => Q .non H', rt := Q } (start N vs) H) : FnOk P w K mg base (CXE P w) (k + 1) f fd ps sp := by
  obtain ⟨oc, od, kV, doc, pm, an, cdv, ct, osl, rfl, lk, hcd⟩ := F.ex
  exact fn_of lk hcd S len fun A outer s H vs Q E hr hsp => hbody cdv A outer s H vs Q E hr hsp
structure DefX (P : Program) (w : World) (K : PySem.W.Frag) (mg : Str → Option Value) (base : Heap) (k : Nat) (x : Str) (ps : List Str) (sp : Sp) : Prop where
  ex : ∃ (f : Addr) (fd : FuncData), FnOk P w K mg base (CXE P w) k f fd ps sp ∧ mg x = some (.ref f) ∧ PySem.W.keepIn K (.ref f) = true ∧ Binds K fd ps []
theorem pe_defX {X : Cx} {k : Nat} {x : Str} {ps : List Str} {sp : Sp} {e : Expr} {es : List Expr} {t : TA} {p pos : Pos} {E : XK} (D : DefX X.prog X.w X.K X.mg X.base k x ps sp) (hx : Passes (CXE X.prog X.w) X E) (hr : Room k X.A) (ha : PA X (e :: es) t) (hg : Gl X x := by rfl) (hdb : (x == ("__debug__" : Str)) = false := by decide)
    (he : starEach (e :: es) X.env = (false, eval e X.env) :: starEach es X.env := by rfl) (hpl : (backTo pos (starEach es X.env)).any (·.1) = false := by rfl) :
    PE X (.Call (.Name x p) (e :: es) [] pos) (tCall sp [] E t) := by
  obtain ⟨f, fd, F, hm, hk, hb⟩ := D.ex
  exact pe_call F hr hg hm hk hb .nil hx ha hdb he hpl
end L2

namespace L2
open PySem PySem.Spec PyProof.Rows
section
variable {X : Cx}
abbrev Cx.with (X : Cx) (pn : List (Addr × Obj)) (xe : Value → Shared → Prop) : Cx := { X with pn := pn, xe := xe }
abbrev Cx.marked (X : Cx) (e : Value) : Cx := { X with A := X.A.mark (some e), calm := false }
theorem Cx.Ok.with {X : Cx} (ok : X.Ok) (pn : List (Addr × Obj)) (xe : Value → Shared → Prop) : (X.with pn xe).Ok :=
  ⟨ok.mod, ok.kind, ok.glob, ok.blt, ok.above, ok.inj, ok.has, ok.cab, ok.hd, ok.frames, ok.stk, ok.exf, ok.bs, ok.bsz, ok.noex, ok.exfs, ok.funs, ok.frf⟩
theorem Cx.Ok.without {X : Cx} {pn : List (Addr × Obj)} {xe : Value → Shared → Prop} (ok : (X.with pn xe).Ok) : X.Ok :=
  ⟨ok.mod, ok.kind, ok.glob, ok.blt, ok.above, ok.inj, ok.has, ok.cab, ok.hd, ok.frames, ok.stk, ok.exf, ok.bs, ok.bsz, ok.noex, ok.exfs, ok.funs, ok.frf⟩
theorem Cx.Ok.mark {X : Cx} (ok : X.Ok) (e : Value) : (X.marked e).Ok :=
  ⟨ok.mod, ok.kind, ok.glob, ok.blt, ok.above, ok.inj, ok.has, ok.cab, (fun z => by cases z), ok.frames, ok.stk, ok.exf, ok.bs, ok.bsz, ok.noex, ok.exfs, ok.funs, ok.frf⟩
theorem Cx.Ok.unmark {X : Cx} {e : Value} (hd : X.calm = true → X.A.handled = none) (ok : (X.marked e).Ok) : X.Ok :=
  ⟨ok.mod, ok.kind, ok.glob, ok.blt, ok.above, ok.inj, ok.has, ok.cab, hd, ok.frames, ok.stk, ok.exf, ok.bs, ok.bsz, ok.noex, ok.exfs, ok.funs, ok.frf⟩
variable {pins pins' : List (Addr × Obj)} {σ : St} {H : Hp} {s : Shared}
theorem Inv.with (I : Inv X pins σ H s) (xe : Value → Shared → Prop) : Inv (X.with (X.pn ++ pins) xe) [] σ H s :=
  ⟨I.ok.with _ _, I.os, I.bare, I.base, I.loc, I.cell, I.free, I.freeC, fun p hp => I.pin p (by simpa using hp), I.hok, I.len⟩
theorem Inv.without {xe : Value → Shared → Prop} (I : Inv (X.with (X.pn ++ pins) xe) pins' σ H s) : Inv X pins σ H s :=
  ⟨I.ok.without, I.os, I.bare, I.base, I.loc, I.cell, I.free, I.freeC, fun p hp => I.pin p (List.mem_append_left _ hp), I.hok, I.len⟩
theorem Inv.mark (I : Inv X pins σ H s) (e : Value) : Inv (X.marked e) pins σ H s := ⟨I.ok.mark e, I.os, I.bare, I.base, I.loc, I.cell, I.free, I.freeC, I.pin, I.hok, I.len⟩
theorem Inv.unmark {e : Value} (hd : X.calm = true → X.A.handled = none) (I : Inv (X.marked e) pins σ H s) : Inv X pins σ H s := ⟨I.ok.unmark hd, I.os, I.bare, I.base, I.loc, I.cell, I.free, I.freeC, I.pin, I.hok, I.len⟩
theorem SP.without {xe : Value → Shared → Prop} {D : Ends} {f : Flow} {s' : Shared} (h : SP (X.with (X.pn ++ pins) xe) pins' D f s') : SP X pins D f s' := by
  cases f with
  | next => obtain ⟨σ', H', I, q⟩ := h; exact ⟨σ', H', I.without, q⟩
  | brk => obtain ⟨σ', H', I, q⟩ := h; exact ⟨σ', H', I.without, q⟩
  | cont => obtain ⟨σ', H', I, q⟩ := h; exact ⟨σ', H', I.without, q⟩
  | ret u => obtain ⟨v, σ', H', I, r, q⟩ := h; exact ⟨v, σ', H', I.without, r, q⟩
theorem SP.unmark {e : Value} (hd : X.calm = true → X.A.handled = none) {D : Ends} {f : Flow} {s' : Shared} (h : SP (X.marked e).nox pins D f s') : SP X pins D f s' := by
  cases f with
  | next => obtain ⟨σ', H', I, q⟩ := h; exact ⟨σ', H', I.unwish.unmark hd, q⟩
  | brk => obtain ⟨σ', H', I, q⟩ := h; exact ⟨σ', H', I.unwish.unmark hd, q⟩
  | cont => obtain ⟨σ', H', I, q⟩ := h; exact ⟨σ', H', I.unwish.unmark hd, q⟩
  | ret u => obtain ⟨v, σ', H', I, r, q⟩ := h; exact ⟨v, σ', H', I.unwish.unmark hd, r, q⟩
theorem Inv.land {P : Program} {w : World} {H' : Hp} {s' : Shared} {h2 : Heap} (I : Inv X pins σ H s) (os : s'.os = s.os) (bare : AllBare s'.gens) (un : Un (frs X.stack) [] H H' s.heap h2) (hok : HOk X.prog X.w H' h2) : Inv X pins σ H' { s' with heap := h2 } := by
  obtain ⟨hh, g, d, t, o⟩ := s'
  obtain rfl : o = s.os := os
  exact Inv.call (s := s) (h' := h2) (g' := g) (d' := d) (t' := t) (ch := []) I un hok bare (fun b z => absurd z (by simp))
end
def tTry (EC : Value → Prop) (tb : XK → TS) (ts : TS) : TS := fun D σ H => tb (fun cls _ H' => EC cls ∧ ∀ σ' : St, σ'.length = σ.length → ts D σ' H') D σ H
section
variable {X : Cx} {x : Str} {C : Addr} {np hpos pos : Pos} {body : List Stmt} {b₀ : Stmt} {suite : List Stmt} {tb : XK → TS} {ts : TS} {EC : Value → Prop}
theorem ps_try (O : Own X) (hg : Gl X x) (hm : X.mg x = some (.ref C)) (hq : ∀ cls, EC cls → PySem.W.exmOne X.K cls (.ref C) = some true)
    (hb : ∀ (pn : List (Addr × Obj)) (xe : Value → Shared → Prop) (E : XK), Passes (CXE X.prog X.w) (X.with pn xe) E → PSs (X.with pn xe) body (tb E)) (hs : ∀ e, PSs (X.marked e).nox (b₀ :: suite) ts) (hd : (x == ("__debug__" : Str)) = false := by decide) :
    PS X (.Try body [.ExceptHandler (some (.Name x np)) none (b₀ :: suite) hpos] [] [] pos) (tTry EC tb ts) := by
  intro pins s σ H D I h
  refine wpAny_Try_except ?_
  generalize hxe : (fun (e : Value) (s₁ : Shared) => wpAny (model X.prog X.w) X.A (noteFrame e X.env) (fun _ s₂ => wpAny (model X.prog X.w) X.A (setFlight e none) (fun _ s₃ =>
    wpAny (model X.prog X.w) X.A (handleBy e X.env [.ExceptHandler (some (.Name x np)) none (b₀ :: suite) hpos]) (SP X pins D) X.xe s₃) X.xe s₂) X.xe s₁) = xe
  have hP : Passes (CXE X.prog X.w) (X.with (X.pn ++ pins) xe) (fun cls _ H' => EC cls ∧ ∀ σ' : St, σ'.length = σ.length → ts D σ' H') := by
    intro pins' σ' H' s' e s2 I0' hx
    have I' : Inv X pins σ' H' s' := I0'.without
    subst hxe
    obtain ⟨a, T, H2, cls, rfl, os, bare, un, hok, na, nT, ha, hT, tr, hec, hts⟩ := hx
    have un : Un (frs X.stack) [] H' H2 s'.heap s2.heap := un
    have hst := frames_after I' un
    have hst' : s2.heap.FunFrames X.base (X.env :: X.outer) := by rw [← O.stk]; exact hst
    refine note_next (by rw [← O.stk]; exact I'.ok.frames) O.fr hst' tr fun h T' N => ?_
    rw [← O.stk] at N
    have un2 := un_noted un N na nT
    have hfree : ∀ b ∈ frs X.stack, H2 b = none := fun b hb => by
      obtain ⟨_, o, ho, _⟩ := I'.stack.mem hb
      exact un.free b o ho (I'.stkFree b hb) (by simp)
    have hok2 : HOk X.prog X.w H2 h := hok_noted hok N hfree fun b hb => by
      rcases List.mem_cons.mp hb with y | y
      · rw [y]; exact ha
      · rw [List.mem_singleton.mp y]; exact hT
    have nT' : s'.heap.get? T' = none ∧ H2 T' = none := by
      rcases N.new with z | z
      · rcases List.mem_cons.mp z with y | y
        · exact ⟨by rw [y]; exact na, by rw [y]; exact ha⟩
        · rw [List.mem_singleton.mp y]; exact ⟨nT, hT⟩
      · refine ⟨?_, hok.nil_of z⟩
        cases q : s'.heap.get? T' with
        | none => rfl
        | some o =>
          obtain ⟨o', e⟩ := un.there T' o q (by simp)
          rw [z] at e; cases e
    have I2 : Inv X pins σ' H2 { s2 with heap := h } := I'.land (P := X.prog) (w := X.w) os bare un2 hok2
    obtain ⟨oe, vs, oT, tv, a1, a2, a3, a4, a5, a6, a7, a8⟩ := N.trc.ex
    subst a2
    have I3 := I2.mark (.ref a)
    refine wpAny_handleBy_cons (codeAny_handlers_test (ld_glob I3 hg hm ?_ hd)) (by intro q; cases q)
    refine PySem.W.Looks.here (s := { s2 with heap := h }) (PySem.W.exm_one I2.kIn ((PySem.W.Looks.ld a1).andThen .now) (hq _ hec)) ?_
    refine codeAny_handlers_suite (wpAny_setFlight_none (s := { s2 with heap := h }) a1 a3 a4 a6 a7 (Array.getElem?_eq_some_iff.mp a8).1 ?_)
    have oth : ∀ b, b ≠ T' → (h.update T' (Obj.mapFields (·.setIfInBounds 3 .none))).get? b = h.get? b := fun b hb => Heap.get?_update_other _ _ (Ne.symm hb)
    have ne : ∀ b o, s'.heap.get? b = some o → b ≠ T' := fun b o z y => by rw [y, nT'.1] at z; cases z
    have un3 : Un (frs X.stack) [] H' H2 s'.heap (h.update T' (Obj.mapFields (·.setIfInBounds 3 .none))) := by
      refine ⟨fun b o e n hb hx => (oth b (ne b o e)).trans (un2.keep b o e n hb hx), fun b o e n hb hx => ?_, un2.free, fun b o e hx => ?_, un2.tups, un2.frzs, un2.tbls⟩
      · obtain ⟨sl, z⟩ := un2.slot b o e n hb hx
        exact ⟨sl, (oth b (ne b o e)).trans z⟩
      · obtain ⟨o', z⟩ := un2.there b o e hx
        exact ⟨o', (oth b (ne b o e)).trans z⟩
    have hok3 : HOk X.prog X.w H2 (h.update T' (Obj.mapFields (·.setIfInBounds 3 .none))) := fun b u q => by
      refine (hok2 b u q).stay (fun c v hc r => (oth c fun y => ?_).trans r) (fun _ q => q) fun _ _ q => q
      have z := nT'.2
      rw [← y] at z
      rcases hc with w' | w'
      · rw [w', q] at z; cases z
      · rw [w'] at z; cases z
    have I4 : Inv X pins σ' H2 { s2 with heap := h.update T' (Obj.mapFields (·.setIfInBounds 3 .none)) } := I'.land (P := X.prog) (w := X.w) os bare un3 hok3
    have hl : σ'.length = σ.length := I'.len.trans I.len.symm
    exact wpAny_mono (hs (.ref a) pins _ σ' H2 D ((I4.mark (.ref a)).wish _) (hts σ' hl)) (fun f s5 z => z.unmark I.ok.hd) fun _ _ z => False.elim z
  have hbody := hb (X.pn ++ pins) xe _ hP [] s σ H D (I.with xe) h
  subst hxe
  refine wpAny_mono hbody (fun f s5 z => ?_) fun _ _ z => z
  cases f with
  | next => exact wpAny_execs_nil z.without
  | brk => exact z.without
  | cont => exact z.without
  | ret u => exact z.without
end
end L2
namespace L2
open PySem PySem.Spec PyProof.Rows
section
variable {X : Cx} {K : PySem.W.Frag} {o e : Expr} {es : List Expr} {to : TE} {t : TA} {name : Str} {apos cpos : Pos} {T id : String} {r : V → List V → Hp → VK → Prop}
theorem pe_bmK (hK : X.K = K) (pa : PlainAttrs T) (slot : Slot T name id) (hty : typeOf (.builtin id) = pure (.type "method_descriptor")) (hm : MtR X id r) (ho : PE X o to) (ha : PA X (e :: es) t)
    (hbase : attributeBase o name X.env (eval o X.env) = eval o X.env := by rfl)
    (hfew : ((backTo cpos (starEach (e :: es) X.env)).all (fun x => !x.1) && (backToKw cpos (keywordEach [] X.env)).all (fun x => x.1.isSome) && decide ((e :: es).length + ([] : List Keyword).length + (if ([] : List Keyword).isEmpty then 0 else 1) < 30)) = true := by rfl)
    (hline : (apos.endLine == cpos.line) = true := by rfl) (hs : starEach (e :: es) X.env = (false, eval e X.env) :: starEach es X.env := by rfl) (hplain : (backTo cpos (starEach es X.env)).any (·.1) = false := by rfl) :
    PE X (.Call (.Attribute o name apos) (e :: es) [] cpos) (tBM K T r to t) := by
  subst hK
  exact pe_bm pa slot hty hm ho ha hbase hfew hline hs hplain
end
def adr (K : PySem.W.Frag) (x : Str) : Addr := match PySem.W.nsIn K mainGlobals x with
  | some (some (.ref a)) => a
  | _ => 0
theorem adr_of {K : PySem.W.Frag} {x : Str} {c : Addr} (h : PySem.W.nsIn K mainGlobals x = some (some (.ref c))) : adr K x = c := by
  unfold adr
  rw [h]
structure ExcOf (K : PySem.W.Frag) (mg : Str → Option Value) (x : Str) : Prop where
  mg : mg x = some (.ref (adr K x))
  cls : PySem.W.excIn K (adr K x) bmV newV = true
  own : PySem.W.exmOne K (.ref (adr K x)) (.ref (adr K x)) = some true
theorem excOf {K : PySem.W.Frag} {h : Heap} {mg : Str → Option Value} {x : Str} {c : Addr} (X : K.In h) (G : h.Ns mainGlobals mg) (q : PySem.W.nsIn K mainGlobals x = some (some (.ref c))) (e : PySem.W.excIn K c bmV newV = true) (m : PySem.W.exmOne K (.ref c) (.ref c) = some true) : ExcOf K mg x := by
  have z := adr_of q
  exact ⟨by rw [z]; exact PySem.W.mg_of X G q, by rw [z]; exact e, by rw [z]; exact m⟩
theorem pass0X {P : Program} {w : World} {X : Cx} : Passes (CXE P w) X E0 := fun _ _ _ _ _ _ _ h => by
  obtain ⟨_, _, _, _, _, _, _, _, _, _, _, _, _, _, hE⟩ := h
  exact hE.elim
theorem DefX.toDef {P : Program} {w : World} {K : PySem.W.Frag} {mg : Str → Option Value} {base : Heap} {k : Nat} {x : Str} {ps : List Str} {sp : Sp} (D : DefX P w K mg base k x ps sp) : Def P w K mg base k x ps (fun vs H Q _ => sp vs H Q E0) := by
  obtain ⟨f, fd, F, hm, hk, hb⟩ := D.ex
  refine ⟨f, fd, ⟨fun vs H Q _ h => F.len vs H Q E0 h, fun A outer s H args us vs Q E hr he hbd hv hs => ?_⟩, hm, hk, hb⟩
  refine codeAny_mono (F.run A outer s H args us vs Q E0 hr he hbd hv hs) fun r s' h => ?_
  cases r with
  | ok f => cases f <;> exact h
  | error e =>
    obtain ⟨_, _, _, _, _, _, _, _, _, _, _, _, _, _, hE⟩ := h
    exact hE.elim
theorem own_cx0 {P : Program} {w : World} {K : PySem.W.Frag} {mg : Str → Option Value} {base : Heap} {N : List Str} {qual : Str} {scope : Scope} {f : Addr} {cd : Value} {A : Around} {outer : List Env} {s : Shared} {H : Hp} {E : XK} :
    Own (cxOf CX0 P w K mg base N qual scope f cd A outer s H E).nox := ⟨rfl, rfl, rfl⟩
end L2

namespace L2
open PySem PySem.Spec PyProof.Rows
structure XCls (K : PySem.W.Frag) (D : Addr) : Prop where
  ga : PySem.W.findIn K (.ref D) "__getattribute__" = some (some (.builtin "BaseException.__getattribute__"))
  no : PySem.W.findIn K (.ref D) "__getattr__" = some none
  cl : PySem.W.findIn K (.ref D) "__class__" = some (some (.builtin "object.__class__"))
  be : PySem.W.mroIn K D (.type "BaseException") = some true
  ob : PySem.W.mroIn K D (.type "object") = some true
section
variable {K : PySem.W.Frag} {prog : Program} {w : World} {A : Around} {E : Value → Shared → Prop} {h : Heap} {g : Array GenState} {d : Drawn} {t : Nat} {os : OsState} {x D : Addr}
def XAt (x D : Addr) (h : Heap) : Prop := ∃ ox, h.get? x = some ox ∧ ox.cls = .ref D
theorem XAt.type {M : Model} (I : XAt x D h) : PySem.W.Looks M h (typeOf (.ref x)) (.ref D) := by
  obtain ⟨o, h1, h2⟩ := I
  exact h2 ▸ (PySem.W.Looks.ld h1).andThen .now
theorem owner_cls : ".".intercalate ("object.__class__".cutAt '.').dropLast = "object" := by
  rw [show "object.__class__".cutAt '.' = ["object", "__class__"] by first | rfl | decide +kernel]
  decide +kernel
theorem xc_get {R : Result → Shared → Prop} (C : XCls K D) (X : K.In h) (I : XAt x D h) (hq : R (.ok (.ret (.ref D))) ⟨h, g, d, t, os⟩) :
    codeAny (model prog w) A (.call (.builtin "getset_descriptor.__get__") ⟨[.builtin "object.__class__", .ref x, .ref D], []⟩) R ⟨h, g, d, t, os⟩ := by
  have L0 := I.type (M := model prog w)
  have L1 := PySem.W.looks_mroIn (M := model prog w) X C.ob
  have hT5 : (⟨h, g, d, t, os⟩ : Shared).TypeIs (.builtin "object.__class__") "getset_descriptor" := F.typeOf_object_class
  have L3 : PySem.W.Looks (model prog w) h (isSubtype (.ref D) (.type (".".intercalate ("object.__class__".cutAt '.').dropLast))) true := by rw [owner_cls]; exact L1
  refine codeAny_call_builtin (F.slot_gs_get.plain) F.entry_gs_get (F.slot_gs_get.check _ _ _ _ _ _ _ _ hT5 (F.args_gs_get _ _ _) ?_)
  repeat (any_goals (first | assumption | (with_reducible refine L0.at ?_) | (with_reducible refine L3.at ?_) | wp_step))
  refine ⟨Code.quiet_builtin (_) (by decide +kernel), codeAny_builtin (F.entry_object_class) ?_⟩
  repeat (any_goals (first | assumption | (with_reducible refine L0.at ?_) | wp_step))
theorem xc_entry {tk : Tok} {Q : Fin → Shared → Prop} (C : XCls K D) (X : K.In h) (I : XAt x D h) (hq : Q (.done (.ret (.ref D))) ⟨h, g, d, t, os⟩) :
    wpAny (model prog w) A (Builtin.«object.__getattribute__» ⟨[.ref x, .str "__class__" tk], []⟩) Q E ⟨h, g, d, t, os⟩ := by
  have L0 := I.type (M := model prog w)
  have L1 := PySem.W.looks_findIn (M := model prog w) X C.cl
  have hT5 : (⟨h, g, d, t, os⟩ : Shared).TypeIs (.builtin "object.__class__") "getset_descriptor" := F.typeOf_object_class
  have f5 := F.typeOf_object_class
  have f6 := F.slot_gs_get.lookup
  have f7 := F.slot_gs_set.lookup
  repeat (any_goals (first | assumption | (with_reducible refine L0.at ?_) | (with_reducible refine L1.at ?_) | wp_step))
  refine xc_get C X I ?_
  repeat (any_goals (first | assumption | wp_step))
theorem xc_check {nameV : Value} {Q : Unit → Shared → Prop} (C : XCls K D) (X : K.In h) (I : XAt x D h) (hq : Q () ⟨h, g, d, t, os⟩) : wpAny (model prog w) A (checkBuiltinCall "BaseException.__getattribute__" ⟨[.ref x, nameV], []⟩) Q E ⟨h, g, d, t, os⟩ := by
  have hk : builtinKind "BaseException.__getattribute__" = some .slot := by decide +kernel
  have hsplit : splitId "BaseException.__getattribute__" = some ("BaseException", "__getattribute__") := by decide +kernel
  have L0 := I.type (M := model prog w)
  have L1 := PySem.W.looks_mroIn (M := model prog w) X C.be
  have ha := F.args_bexc_ga (.ref x) nameV
  simp only [checkBuiltinCall, hk, hsplit]
  refine wpAny_bind ?_
  unfold isInstance
  repeat (first | (with_reducible refine L0.at ?_) | (with_reducible refine L1.at ?_) | wp_step)
  exact hq
theorem xc_call {tk : Tok} {R : Result → Shared → Prop} (C : XCls K D) (X : K.In h) (I : XAt x D h) (hq : R (.ok (.ret (.ref D))) ⟨h, g, d, t, os⟩) :
    codeAny (model prog w) A (.call (.builtin "BaseException.__getattribute__") ⟨[.ref x, .str "__class__" tk], []⟩) R ⟨h, g, d, t, os⟩ :=
  codeAny_call_builtin F.excAttr_ValueError.ga.plain F.entry_bexc_ga (xc_check C X I (xc_entry C X I hq))
theorem xc_by {tk : Tok} {Q : Value → Shared → Prop} (C : XCls K D) (X : K.In h) (I : XAt x D h) (hq : Q (.ref D) ⟨h, g, d, t, os⟩) : wpAny (model prog w) A (getAttrBy (.ref x) (.str "__class__" tk) false) Q E ⟨h, g, d, t, os⟩ := by
  have f3 := F.excAttr_ValueError.ga.bind (.ref x)
  have L0 := I.type (M := model prog w)
  have L1 := PySem.W.looks_findIn (M := model prog w) X C.ga
  have L2 := PySem.W.looks_findIn (M := model prog w) X C.no
  have hx2 : (Value.builtin "BaseException.__getattribute__" == Value.builtin "object.__getattribute__") = false := by decide +kernel
  have hx1 : (onTheHeap (Value.ref D) && Value.builtin "BaseException.__getattribute__" == Value.builtin "object.__getattribute__") = false := by rw [hx2]; rfl
  repeat (any_goals (first | assumption | (with_reducible refine L0.at ?_) | (with_reducible refine L1.at ?_) | (with_reducible refine L2.at ?_) | wp_step))
  refine xc_call C X I ?_
  repeat (any_goals (first | assumption | wp_step))
theorem xc_attr {Q : Option Value → Shared → Prop} (C : XCls K D) (X : K.In h) (I : XAt x D h) (hq : Q (some (.ref D)) ⟨h, g, d, t + 1, os⟩) : wpAny (model prog w) A (getAttr? (.ref x) "__class__") Q E ⟨h, g, d, t, os⟩ := by
  unfold getAttr? getAttrBy?
  repeat (any_goals (first | assumption | with_reducible apply xc_by C X I | wp_step))
theorem xc_kit (C : XCls K D) : PySem.W.KitX K (.ref x) (.ref D) (XAt x D) where
  ty := fun _ _ _ I => I.type
  it := fun _ _ X _ => by
    have hm := C.ob
    unfold PySem.W.mroIn at hm
    obtain ⟨cd, hc, _⟩ := Option.bind_eq_some_iff.mp hm
    unfold PySem.W.clsIn at hc
    split at hc
    · rename_i ho
      intro A' Q' E' s' k q
      unfold isType loadHead
      exact wpAny_bind (wpAny_loadPart (k _ _ (X _ _ ho)) (wpAny_pure q))
    · cases hc
  ne := fun h tp dd its n sl X htp => by
    have hm := C.ob
    unfold PySem.W.mroIn at hm
    obtain ⟨cd, hc, _⟩ := Option.bind_eq_some_iff.mp hm
    refine Bool.eq_false_iff.mpr fun q => ?_
    cases Value.ref.inj (beq_iff_eq.mp q)
    unfold PySem.W.clsIn at hc
    split at hc
    · rename_i ho
      have z := (X _ _ ho).symm.trans htp
      cases z
    · cases hc
  ca := fun {_ _ _ _ _ s} X I k => by
    obtain ⟨h, g, d, t, os⟩ := s
    exact xc_attr C X I k
end
end L2

namespace L2
open PySem PySem.Spec PyProof.Rows
section
variable {X : Cx} {pins : List (Addr × Obj)} {σ : St} {H : Hp} {s : Shared}
theorem gone_ok {M : Model} {A : Around} {E : Value → Shared → Prop} {i : Nat} {x : Str} {pos : Pos} {Q : Unit → Shared → Prop} (I : Inv X pins σ H s) (hN : X.N.Nodup) (hi : X.N[i]? = some x) (hk : X.env.scope.names.lookup x = some .local)
    (h : ∀ s', Inv X pins (σ.set i none) H s' → Q () s') : wpAny M A (do bindName X.env x .none; unbindBehindTheSuite X.env x pos) Q E s := by
  obtain ⟨m, hn, hl⟩ := id I.loc
  have hcls : (X.env.scope.kind == .class || (X.env.scope.kind == .module && X.env.locals != X.env.globals)) = false := by rw [I.ok.kind]; rfl
  have hiσ : i < σ.length := by rw [I.len]; exact (List.getElem?_eq_some_iff.mp hi).1
  have cne := I.cne
  refine wpAny_nameGoes_keeps hk hn hcls fun h' v hn' hs => ?_
  have old : ∀ b o, X.s₀.heap.get? b = some o → b ≠ X.env.locals := fun b o e => Nat.ne_of_lt (Nat.lt_of_lt_of_le (Heap.lt_size e) I.ok.above)
  refine h _ ⟨I.ok, I.os, I.bare, ⟨fun b o e n hb hx => (hs.2 b (old b o e)).trans (I.base.keep b o e n hb hx), fun b o e n hb hx => ?_, I.base.free, fun b o e hx => ?_, I.base.tups, I.base.frzs, I.base.tbls⟩, ⟨_, hn', fun j y v' e1 e2 e3 => ?_⟩, fun y c e => ?_, I.free, I.freeC, fun p hp => ?_, fun b ob e => ?_, by simpa using I.len⟩
  · obtain ⟨sl, e1⟩ := I.base.slot b o e n hb hx
    exact ⟨sl, (hs.2 b (old b o e)).trans e1⟩
  · obtain ⟨o', e1⟩ := I.base.there b o e hx
    exact ⟨o', (hs.2 b (old b o e)).trans e1⟩
  · by_cases hj : j = i
    · subst hj
      rw [List.getElem?_set_self hiσ] at e2
      cases e2
    · rw [List.getElem?_set_ne (Ne.symm hj)] at e2
      obtain ⟨u', r', q⟩ := hl j y v' e1 e2 e3
      refine ⟨u', r', ?_⟩
      rcases q with ⟨k, e⟩ | ⟨k, c, e, z⟩
      · have ny : y ≠ x := fun e => hj (nodup_ix hN e1 (e ▸ hi))
        exact .inl ⟨k, by simp [ny, e]⟩
      · exact .inr ⟨k, c, e, z.sameBut hs (cne y c e)⟩
  · obtain ⟨w', z⟩ := I.cell y c e
    exact ⟨w', z.sameBut hs (cne y c e)⟩
  · obtain ⟨e, n, ne, nf, d⟩ := I.pin p hp
    exact ⟨(hs.2 p.1 ne).trans e, n, ne, nf, d⟩
  · refine (I.hok b ob e).stay (fun c w' hc q => (hs.2 c ?_).trans q) (fun _ q => q) fun _ _ q => q
    rintro rfl
    have z := I.free
    rcases hc with rfl | hc
    · rw [z] at e; cases e
    · rw [z] at hc; cases hc
def XA (a : Addr) (cls : Value) : HO := .ext fun h => ∃ o, h.get? a = some o ∧ o.cls = cls
theorem xa_ok {P : Program} {w : World} {h : Heap} {a : Addr} {cls : Value} {o : Obj} (e : h.get? a = some o) (c : o.cls = cls) : ObjOk P w H h a (XA a cls) :=
  ⟨⟨o, e, c⟩, ⟨o, e⟩, fun h1 h2 ⟨o', q1, q2⟩ k => ⟨o', k o' q1, q2⟩⟩
theorem Un.more {fs : List Addr} {H H2 : Hp} {g h : Heap} {a : Addr} {o : HO} (un : Un fs [] H H2 g h) (ng : g.get? a = none) (nH : H2 a = none) : Un fs [] H (upd H2 a o) g h := by
  have ne : ∀ b u, H2 b = some u → b ≠ a := fun b u q z => by rw [z, nH] at q; cases q
  refine ⟨un.keep, un.slot, fun b ob e n hx => ?_, un.there, fun b xs q => ?_, fun b ob u q => ?_, fun b ps q => ?_⟩
  · rw [upd_ne (fun z => by rw [z, ng] at e; cases e)]
    exact un.free b ob e n hx
  · have := un.tups b xs q
    rw [upd_ne (ne b _ this)]; exact this
  · have := un.frzs b ob u q
    rw [upd_ne (ne b _ this)]; exact this
  · obtain ⟨m, this⟩ := un.tbls b ps q
    exact ⟨m, by rw [upd_ne (ne b _ this)]; exact this⟩
theorem HOk.more {P : Program} {w : World} {H2 : Hp} {h : Heap} {a : Addr} {o : HO} (x : HOk P w H2 h) (nH : H2 a = none) (new : ObjOk P w (upd H2 a o) h a o) : HOk P w (upd H2 a o) h := by
  have ne : ∀ b u, H2 b = some u → b ≠ a := fun b u q z => by rw [z, nH] at q; cases q
  intro b u q
  by_cases hb : b = a
  · subst hb
    rw [upd_same] at q
    cases q
    exact new
  · rw [upd_ne hb] at q
    refine (x b u q).stay (fun c v _ r => r) (fun c r => ?_) fun c xs r => ?_
    · rw [upd_ne (ne c _ r)]; exact r
    · rw [upd_ne (ne c _ r)]; exact r
end
def goneE (i : Nat) (D : Ends) : Ends := { nx := fun σ H => D.nx (σ.set i none) H, rt := D.rt, bk := fun σ H => D.bk (σ.set i none) H, ct := fun σ H => D.ct (σ.set i none) H }
def tTryAs (EC : Value → Prop) (i : Nat) (t : TA) (sp : Sp) (ts : TS) : TS := fun D σ H => t σ H fun vs H1 => sp vs H1 (fun _ H2 => D.nx σ H2) fun cls _ H2 =>
  EC cls ∧ ∀ a : Addr, H2 a = none → ts (goneE i D) (σ.set i (some (.ref a))) (upd H2 a (XA a cls))
section
variable {X : Cx} {x y n : Str} {C : Addr} {np p hpos pos cpos epos : Pos} {e₀ : Expr} {es : List Expr} {b₀ : Stmt} {suite : List Stmt} {t : TA} {ts : TS} {EC : Value → Prop} {i k : Nat} {ps : List Str} {sp : Sp}
theorem ps_tryAs (O : Own X) (hg : Gl X x) (hm : X.mg x = some (.ref C)) (hq : ∀ cls, EC cls → PySem.W.exmOne X.K cls (.ref C) = some true) (hN : X.N.Nodup) (hi : X.N[i]? = some n) (hk : X.env.scope.names.lookup n = some .local)
    (D : DefX X.prog X.w X.K X.mg X.base k y ps sp) (hr : Room k X.A) (hgy : Gl X y) (ha : PA X.nox (e₀ :: es) t) (hs : ∀ e, PSs (X.marked e).nox (b₀ :: suite) ts) (hd : (x == ("__debug__" : Str)) = false := by decide) (hdy : (y == ("__debug__" : Str)) = false := by decide)
    (he : starEach (e₀ :: es) X.env = (false, eval e₀ X.env) :: starEach es X.env := by rfl) (hpl : (backTo cpos (starEach es X.env)).any (·.1) = false := by rfl) (hsw : swapsWith (.Call (.Name y p) (e₀ :: es) [] cpos) none epos.line X.env = pure false := by rfl) :
    PS X (.Try [.Expr (.Call (.Name y p) (e₀ :: es) [] cpos) epos] [.ExceptHandler (some (.Name x np)) (some n) (b₀ :: suite) hpos] [] [] pos) (tTryAs EC i t sp ts) := by
  intro pins s σ H Dn I h
  refine wpAny_Try_except ?_
  obtain ⟨f, fd, F, hmy, hky, hb⟩ := D.ex
  generalize hxe : (fun (e : Value) (s₁ : Shared) => wpAny (model X.prog X.w) X.A (noteFrame e X.env) (fun _ s₂ => wpAny (model X.prog X.w) X.A (setFlight e none) (fun _ s₃ =>
    wpAny (model X.prog X.w) X.A (handleBy e X.env [.ExceptHandler (some (.Name x np)) (some n) (b₀ :: suite) hpos]) (SP X pins Dn) X.xe s₃) X.xe s₂) X.xe s₁) = xe
  have hcall : wpAny (model X.prog X.w) X.A (eval (.Call (.Name y p) (e₀ :: es) [] cpos) X.env) (fun _ s1 => ∃ H2, Inv X pins σ H2 s1 ∧ Dn.nx σ H2) xe s := by
    refine wpAny_Call_Name_kw (ld_glob I hgy hmy ?_ hdy)
    refine PySem.W.callWith_K (h₀ := X.base) I.ok.mod.kin hky (wpAny_mono (ha cpos pins s σ H _ (I.wish _) h) (fun us s1 ⟨vs, H1, I1, r, q⟩ => ⟨I1.unwish.kIn, ?_⟩) fun _ _ z => False.elim z) he hpl
    have I' := I1.unwish
    have hl : (us ++ []).length = ps.length := by rw [List.append_nil, ← r.length]; exact F.len _ _ _ _ q
    have hb' := hb s1 us I'.kIn hl
    rw [List.append_nil] at hb'
    refine wpAny_call (codeAny_mono (F.run X.A X.stack s1 H1 ⟨us, []⟩ us vs _ _ hr I'.env0 hb' r q) fun r' s2 hx => ?_)
    cases r' with
    | ok fl =>
      cases fl with
      | ret u =>
        obtain ⟨v, H2, I2, _, q2⟩ := I'.after hx
        exact ⟨H2, I2, q2⟩
      | next => exact False.elim hx
      | brk => exact False.elim hx
      | cont => exact False.elim hx
    | error e =>
      subst hxe
      obtain ⟨a, T, H2, cls, rfl, os, bare, un, hok, na, nT, hna, hnT, tr, hec, hts⟩ := hx
      have un : Un (frs X.stack) [] H1 H2 s1.heap s2.heap := un
      have hst := frames_after I' un
      have hst' : s2.heap.FunFrames X.base (X.env :: X.outer) := by rw [← O.stk]; exact hst
      refine note_next (by rw [← O.stk]; exact I'.ok.frames) O.fr hst' tr fun h T' N => ?_
      rw [← O.stk] at N
      have un2 := un_noted un N na nT
      have hfree : ∀ b ∈ frs X.stack, H2 b = none := fun b hb => by
        obtain ⟨_, o, ho, _⟩ := I'.stack.mem hb
        exact un.free b o ho (I'.stkFree b hb) (by simp)
      have hok2 : HOk X.prog X.w H2 h := hok_noted hok N hfree fun b hb => by
        rcases List.mem_cons.mp hb with z | z
        · rw [z]; exact hna
        · rw [List.mem_singleton.mp z]; exact hnT
      have nT' : s1.heap.get? T' = none ∧ H2 T' = none := by
        rcases N.new with z | z
        · rcases List.mem_cons.mp z with z | z
          · exact ⟨by rw [z]; exact na, by rw [z]; exact hna⟩
          · rw [List.mem_singleton.mp z]; exact ⟨nT, hnT⟩
        · refine ⟨?_, hok.nil_of z⟩
          cases q : s1.heap.get? T' with
          | none => rfl
          | some o =>
            obtain ⟨o', e⟩ := un.there T' o q (by simp)
            rw [z] at e; cases e
      have I2 : Inv X pins σ H2 { s2 with heap := h } := I'.land (P := X.prog) (w := X.w) os bare un2 hok2
      obtain ⟨oe, vs', oT, tv, a1, a2, a3, a4, a5, a6, a7, a8⟩ := N.trc.ex
      subst a2
      have I3 := I2.mark (.ref a)
      refine wpAny_handleBy_cons (codeAny_handlers_test (ld_glob I3 hg hm ?_ hd)) (by intro q; cases q)
      refine PySem.W.Looks.here (s := { s2 with heap := h }) (PySem.W.exm_one I2.kIn ((PySem.W.Looks.ld a1).andThen .now) (hq _ hec)) ?_
      refine codeAny_handlers_suite_as (wpAny_setFlight_none (s := { s2 with heap := h }) a1 a3 a4 a6 a7 (Array.getElem?_eq_some_iff.mp a8).1 ?_)
      have oth : ∀ b, b ≠ T' → (h.update T' (Obj.mapFields (·.setIfInBounds 3 .none))).get? b = h.get? b := fun b hb => Heap.get?_update_other _ _ (Ne.symm hb)
      have ne : ∀ b o, s1.heap.get? b = some o → b ≠ T' := fun b o z y => by rw [y, nT'.1] at z; cases z
      have un3 : Un (frs X.stack) [] H1 H2 s1.heap (h.update T' (Obj.mapFields (·.setIfInBounds 3 .none))) := by
        refine ⟨fun b o e n hb hx => (oth b (ne b o e)).trans (un2.keep b o e n hb hx), fun b o e n hb hx => ?_, un2.free, fun b o e hx => ?_, un2.tups, un2.frzs, un2.tbls⟩
        · obtain ⟨sl, z⟩ := un2.slot b o e n hb hx
          exact ⟨sl, (oth b (ne b o e)).trans z⟩
        · obtain ⟨o', z⟩ := un2.there b o e hx
          exact ⟨o', (oth b (ne b o e)).trans z⟩
      have hok3 : HOk X.prog X.w H2 (h.update T' (Obj.mapFields (·.setIfInBounds 3 .none))) := fun b u q => by
        refine (hok2 b u q).stay (fun c v hc r => (oth c fun z => ?_).trans r) (fun _ q => q) fun _ _ q => q
        have z' := nT'.2
        rw [← z] at z'
        rcases hc with w' | w'
        · rw [w', q] at z'; cases z'
        · rw [w'] at z'; cases z'
      have ea : (h.update T' (Obj.mapFields (·.setIfInBounds 3 .none))).get? a = some oe := (oth a (Ne.symm a5)).trans a1
      have hok4 : HOk X.prog X.w (upd H2 a (XA a oe.cls)) (h.update T' (Obj.mapFields (·.setIfInBounds 3 .none))) := hok3.more hna (xa_ok ea rfl)
      have I4 : Inv X pins σ (upd H2 a (XA a oe.cls)) { s2 with heap := h.update T' (Obj.mapFields (·.setIfInBounds 3 .none)) } := I'.land (P := X.prog) (w := X.w) os bare (un3.more na hna) hok4
      refine store_ok I4 hN hi (.inl hk) (show RelV (.ref a) (.ref a) from rfl) (fun s5 I5 => ?_) (.inr hk)
      refine wpAny_mono (hs (.ref a) pins s5 _ _ _ ((I5.mark (.ref a)).wish _) (hts a hna)) (fun f s6 z => ?_) fun _ _ z => False.elim z
      cases f with
      | next =>
        obtain ⟨σ', H', J, q⟩ := z
        exact gone_ok (J.unwish.unmark I.ok.hd) hN hi hk fun s7 J' => ⟨_, H', J', q⟩
      | brk =>
        obtain ⟨σ', H', J, q⟩ := z
        exact gone_ok (J.unwish.unmark I.ok.hd) hN hi hk fun s7 J' => ⟨_, H', J', q⟩
      | cont =>
        obtain ⟨σ', H', J, q⟩ := z
        exact gone_ok (J.unwish.unmark I.ok.hd) hN hi hk fun s7 J' => ⟨_, H', J', q⟩
      | ret u =>
        obtain ⟨v, σ', H', J, rv, q⟩ := z
        exact gone_ok (J.unwish.unmark I.ok.hd) hN hi hk fun s7 J' => ⟨v, _, H', J', rv, q⟩
  refine wpAny_execs_cons (wpAny_Expr_any (thn hcall fun v s1 ⟨H2, I2, q2⟩ => ?_) I.quiet hsw)
  exact wpAny_execs_nil (wpAny_execs_nil ⟨σ, H2, I2, q2⟩)
end
end L2

namespace L2
open PySem PySem.Spec PyProof.Rows
structure FnOkM (P : Program) (w : World) (K : PySem.W.Frag) (mg : Str → Option Value) (base : Heap) (k : Nat) (f : Addr) (fd : FuncData) (ps : List Str) (sp : Sp) : Prop where
  len : ∀ vs H Q E, sp vs H Q E → vs.length = ps.length
  run : ∀ (A : Around) (e : Value) (outer : List Env) (s : Shared) (H : Hp) (args : Args) (us : List Value) (vs : List V) (Q : VK), Room k A → Env0 P w K mg base A outer s H → BindsTo s fd args (ps.zip us) → Vals vs us → sp vs H Q E0 →
    codeAny (model P w) (A.mark (some e)) (.call (.ref f) args) (CR CX0 outer P w H s Q E0) s
theorem Fun.okM {P : Program} {w : World} {K : PySem.W.Frag} {mg : Str → Option Value} {base : Heap} {x qual : Str} {st : Stmt} {f : Addr} {fd : FuncData} {N ps : List Str} {k : Nat} {sp : Sp} (F : Fun K x qual st f fd) (S : FnScope N ps (defScope st)) (len : ∀ vs H Q E, sp vs H Q E → vs.length = ps.length)
    (hbody : ∀ (cdv : Value) (A : Around) (e : Value) (outer : List Env) (s : Shared) (H : Hp) (vs : List V) (Q : VK), Room k (A.deeper (envOfC qual (defScope st) s.heap.objs.size f cdv)) → sp vs H Q E0 →
      ∃ t, PSs ((cxOf CX0 P w K mg base N qual (defScope st) f cdv A outer s H E0).marked e).nox (defBody st) t ∧ t { nx := fun _ H' => Q .non H', rt := Q } (start N vs) H) : FnOkM P w K mg base (k + 1) f fd ps sp := by
  obtain ⟨oc, od, kV, doc, pm, an, cdv, ct, osl, rfl, lk, hcd⟩ := F.ex
  refine ⟨len, fun A e outer s H args us vs Q hr e0 hb r hsp => ?_⟩
  have hl := len _ _ _ _ hsp
  have KX : K.In s.heap := e0.mod.kin.keeps fun b o e => (e0.bs b o e).1
  have lim : s.heap.NoLimit := e0.mod.nolimit.keeps fun b o e => (e0.bs b o e).1
  have hkind : ∀ y ∈ ps.zip us, (defScope st).names.lookup y.1 = some .local ∨ ((defScope st).names.lookup y.1 = some .cell ∧ ((cellsFrom (s.heap.objs.size + 1) (defScope st).names []).lookup y.1).isSome = true) := fun ⟨n, v⟩ hy => by
    rcases S.par n (List.of_mem_zip hy).1 with q | q
    · exact .inl q
    · exact .inr ⟨q, PySem.W.cellsFrom_some _ _ _ (.inl q)⟩
  refine codeAny_call_function (A := A.mark (some e)) hr.depth (KX _ _ lk) rfl S.co S.gen rfl (PySem.W.codeRec_of KX hcd) (hb _ _ _ _ ?_)
  refine wpAny_newFunctionEnv_cells S.kind hkind fun env he s1 x => ?_
  subst he
  refine ⟨lim.keeps x.toInCall.keep, codeAny_func ?_⟩
  obtain ⟨t, ht, hq⟩ := hbody cdv A e outer s H vs Q (hr.deeper _) hsp
  have I : Inv (cxOf CX0 P w K mg base N qual (defScope st) f cdv A outer s H E0) [] (start N vs) H s1 := inv_start S hr.hd e0 hl r x
  refine wpAny_mono (ht [] s1 (start N vs) H _ ((I.mark e).wish _) hq) (fun fl s' hs => ?_) fun e s' hs => False.elim hs
  cases fl with
  | ret u =>
    obtain ⟨v, σ', H', J, rv, q⟩ := hs
    exact ⟨v, H', J.os, J.bare, J.base, J.hok, rv, q⟩
  | next =>
    obtain ⟨σ', H', J, q⟩ := hs
    exact ⟨.non, H', J.os, J.bare, J.base, J.hok, rfl, q⟩
  | brk =>
    obtain ⟨_, _, _, q⟩ := hs
    exact False.elim q
  | cont =>
    obtain ⟨_, _, _, q⟩ := hs
    exact False.elim q
structure DefU (P : Program) (w : World) (K : PySem.W.Frag) (mg : Str → Option Value) (base : Heap) (k : Nat) (x : Str) (ps : List Str) (sp : Sp) : Prop where
  ex : ∃ (f : Addr) (fd : FuncData), FnOkM P w K mg base k f fd ps sp ∧ mg x = some (.ref f) ∧ PySem.W.keepIn K (.ref f) = true ∧ Binds K fd ps []
section
variable {X : Cx} {m : Value} {y : Str} {p pos : Pos} {e₀ : Expr} {es : List Expr} {t : TA} {k : Nat} {ps : List Str} {sp : Sp}
theorem pe_defU (D : DefU X.prog X.w X.K X.mg X.base k y ps sp) (hr : Room k X.A) (ha : PA (X.marked m).nox (e₀ :: es) t) (hg : Gl X y := by rfl) (hdb : (y == ("__debug__" : Str)) = false := by decide)
    (he : starEach (e₀ :: es) X.env = (false, eval e₀ X.env) :: starEach es X.env := by rfl) (hpl : (backTo pos (starEach es X.env)).any (·.1) = false := by rfl) :
    PE (X.marked m).nox (.Call (.Name y p) (e₀ :: es) [] pos) (tCall sp [] E0 t) := by
  obtain ⟨f, fd, F, hm, hk, hb⟩ := D.ex
  intro pins s σ H Q I h
  refine wpAny_Call_Name_kw (ld_glob I hg hm ?_ hdb)
  refine PySem.W.callWith_K (h₀ := X.base) I.ok.mod.kin hk (thn (ha pos pins s σ H _ I h) fun us s1 ⟨vs, H1, I1, r, q⟩ => ⟨I1.kIn, ?_⟩) he hpl
  have q : sp (vs ++ []) H1 Q E0 := q
  rw [List.append_nil] at q
  have hl : (us ++ []).length = ps.length := by rw [List.append_nil, ← r.length]; exact F.len _ _ _ _ q
  have hb' := hb s1 us I1.kIn hl
  rw [List.append_nil] at hb'
  have e0 := I1.env0
  refine wpAny_call (codeAny_mono (F.run X.A m X.stack s1 H1 ⟨us, []⟩ us vs Q hr ⟨e0.frames, e0.mod, e0.bs, e0.bsz, e0.funs, e0.frf, e0.hok, e0.bare⟩ hb' r q) fun r' s2 hx => ?_)
  cases r' with
  | ok fl =>
    cases fl with
    | ret u => exact I1.after hx
    | next => exact False.elim hx
    | brk => exact False.elim hx
    | cont => exact False.elim hx
  | error e => exact False.elim hx
end
section
variable {X : Cx}
def rIsiX (K : PySem.W.Frag) : List V → Hp → VK → Prop := fun xs H Q => ∃ (a D : Addr) (c : V) (cv : Value) (b : Bool), xs = [.ref a, c] ∧ (∀ u, RelV c u → u = cv) ∧ H a = some (XA a (.ref D)) ∧ XCls K D ∧ PySem.W.kitOne K (.ref D) cv = some b ∧ Q (.bl b) H
theorem call_isiX : CallR X (.builtin "isinstance") (rIsiX X.K) := by
  intro pins s σ H xs us Q I r h
  obtain ⟨a, D, c, cv, b, rfl, hc, ha, C, e, q⟩ := h
  obtain ⟨u, w', rfl, ru, rw'⟩ := vals2 r
  cases (show u = Value.ref a from ru)
  cases hc w' rw'
  have z : XAt a D s.heap := (I.hok a _ ha).1
  exact PySem.W.kia_one (xc_kit C) I.kIn z e (fun z => nomatch z) fun tk => ⟨.bl b, H, I.tok tk, rfl, q⟩
end
section
variable {X : Cx} {v : Expr} {n : Int} {a b : Str} {j j' : Nat} {p1 p2 p3 pos : Pos}
theorem pe_fstr (hv : PE X v (tC (.int n))) (hn : n.natAbs.log2 < 1920) (h1 : (Str.empty ++ a).length ≤ sizeLine) (h2 : (Str.empty ++ a ++ Str.ofString (toString n)).length ≤ sizeLine) (h3 : (Str.empty ++ a ++ Str.ofString (toString n) ++ b).length ≤ sizeLine) :
    PE X (.JoinedStr [.Constant (.str a) j p1, .FormattedValue v (-1) none p2, .Constant (.str b) j' p3] pos) (tC (.str (Str.empty ++ a ++ Str.ofString (toString n) ++ b))) := by
  intro pins s σ H Q I h
  refine JoinedStr_many (joinParts_cons (Calls.Constant_str ⟨h1, joinParts_cons (FormattedValue_plain ?_)⟩))
  refine thn (hv pins _ σ H (fun v H' => v = .int n ∧ H' = H) (I.tok _) ⟨rfl, rfl⟩) fun u s1 ⟨x, H1, I1, r, e1, e2⟩ => ?_
  subst e1 e2
  obtain ⟨tk, rfl⟩ := (show ∃ t, u = Value.int n t from r)
  refine formatField_int_small hn ⟨h2, ?_⟩
  exact joinParts_cons (Calls.Constant_str ⟨h3, joinParts_nil ⟨.str _, H1, ((I1.tok _).tok _).tok _, ⟨_, rfl⟩, h⟩ h3⟩)
end
section
variable {X : Cx} {st : Stmt} {rest : List Stmt} {t : TS}
def tDead (t : TS) : TS := fun D σ H => t { nx := fun _ _ => False, rt := D.rt, bk := D.bk, ct := D.ct } σ H
theorem pss_dead (h1 : PS X st t) : PSs X (st :: rest) (tDead t) := by
  intro pins s σ H D I h
  refine wpAny_execs_cons (thn (h1 pins s σ H _ I h) fun f s1 q => ?_)
  cases f with
  | next => obtain ⟨_, _, _, q⟩ := q; exact False.elim q
  | ret v => exact q
  | brk => exact q
  | cont => exact q
end
structure DefMX (P : Program) (w : World) (K : PySem.W.Frag) (mg : Str → Option Value) (base : Heap) (k : Nat) (C : Addr) (m : Str) (ps : List Str) (sp : Sp) : Prop where
  ex : ∃ (f : Addr) (fd : FuncData), FnOk P w K mg base (CXE P w) k f fd ps sp ∧ Meth K C m f ∧ Binds K fd ps []
structure DefCX (P : Program) (w : World) (K : PySem.W.Frag) (mg : Str → Option Value) (base : Heap) (k : Nat) (C : Addr) (x : Str) (ps : List Str) (sp : Sp) : Prop where
  ex : ∃ (f : Addr) (fd : FuncData), FnOk P w K mg base (CXE P w) k f fd ps sp ∧ Mk K C f ∧ Binds K fd ps [] ∧ mg x = some (.ref C)
section
variable {X : Cx} {k : Nat} {x m : Str} {ps : List Str} {sp : Sp} {C : Addr} {e o : Expr} {es : List Expr} {t : TA} {ta : TE} {p pos apos : Pos} {E : XK}
theorem pe_defMX {pl : Sem Bool} (D : DefMX X.prog X.w X.K X.mg X.base k C m ps sp) (c : Cls X.K C) (hx : Passes (CXE X.prog X.w) X E) (hr : Room k X.A) (ho : PE X o ta) (ha : PA X (e :: es) t)
    (hst : starEach (e :: es) X.env = (false, eval e X.env) :: starEach es X.env := by rfl) (hpl : (backTo pos (starEach es X.env)).any (·.1) = false := by rfl)
    (ht : eval (.Call (.Attribute o m apos) (e :: es) [] pos) X.env = (do
      let ov ← eval o X.env
      standAt apos.atName
      let (f, first) ← holding [ov] (getMethod ov m pl)
      callWith pos f first (backTo pos (starEach (e :: es) X.env)) (backToKw pos (keywordEach [] X.env))) := by rfl) :
    PE X (.Call (.Attribute o m apos) (e :: es) [] pos) (tMeth C m sp [] E ta t) := by
  obtain ⟨f, fd, F, hm, hb⟩ := D.ex
  exact pe_meth ho c hm F hr hb .nil hx ha hst hpl ht
theorem pe_defCX (D : DefCX X.prog X.w X.K X.mg X.base k C x ps sp) (hx : Passes (CXE X.prog X.w) X E) (hr : Room (k + 1) X.A) (ha : PA X (e :: es) t) (hg : Gl X x := by rfl) (hdb : (x == ("__debug__" : Str)) = false := by decide)
    (he : starEach (e :: es) X.env = (false, eval e X.env) :: starEach es X.env := by rfl) (hpl : (backTo pos (starEach es X.env)).any (·.1) = false := by rfl) :
    PE X (.Call (.Name x p) (e :: es) [] pos) (tMake C sp [] E t) := by
  obtain ⟨f, fd, F, M, hb, hm⟩ := D.ex
  exact pe_make M F hr hg hm hb .nil hx ha hdb he hpl
end
theorem boot_VE : bootBuiltins "ValueError" = some (.type "ValueError") := by first | kernel_rfl | decide +kernel
def xnm (i : Nat) : Str := (["NoRow", "NoPlace", "NoStretch", "NoTree", "NoOrder", "NoNumber", "NoSky"] : List Str).getD i ""
structure XFacts (K : PySem.W.Frag) : Prop where
  exm : ∀ i, i < 7 → PySem.W.exmOne K (.ref (adr K (xnm i))) (.ref (adr K "RowError")) = some true
  cls : ∀ i, i < 7 → XCls K (adr K (xnm i))
  val : ∀ i, i < 7 → PySem.W.kitOne K (.ref (adr K (xnm i))) (.type "ValueError") = some true
  kit : ∀ i j, i < 7 → j < 7 → PySem.W.kitOne K (.ref (adr K (xnm i))) (.ref (adr K (xnm j))) = some (decide (i = j))
def xOne (K : PySem.W.Frag) (R c : Addr) : Bool := PySem.W.exmOne K (.ref c) (.ref R) == some true && (PySem.W.findIn K (.ref c) "__getattribute__" == some (some (.builtin "BaseException.__getattribute__")) && (PySem.W.findIn K (.ref c) "__getattr__" == some none && (PySem.W.findIn K (.ref c) "__class__" == some (some (.builtin "object.__class__")) &&
  (PySem.W.mroIn K c (.type "BaseException") == some true && (PySem.W.mroIn K c (.type "object") == some true && PySem.W.kitOne K (.ref c) (.type "ValueError") == some true)))))
def xTab (K : PySem.W.Frag) (R : Addr) (cs : List Addr) : Bool := (List.range 7).all fun i => xOne K R (cs.getD i 0) && (List.range 7).all fun j => PySem.W.kitOne K (.ref (cs.getD i 0)) (.ref (cs.getD j 0)) == some (decide (i = j))
theorem xfacts {K : PySem.W.Frag} {R : Addr} (hR : adr K "RowError" = R) (cs : List Addr) (hc : ∀ i, i < 7 → adr K (xnm i) = cs.getD i 0) (h : xTab K R cs = true) : XFacts K := by
  have one : ∀ i, i < 7 → xOne K R (cs.getD i 0) = true ∧ ∀ j, j < 7 → PySem.W.kitOne K (.ref (cs.getD i 0)) (.ref (cs.getD j 0)) = some (decide (i = j)) := fun i hi => by
    have := List.all_eq_true.mp h i (List.mem_range.mpr hi)
    rw [Bool.and_eq_true] at this
    exact ⟨this.1, fun j hj => beq_iff_eq.mp (List.all_eq_true.mp this.2 j (List.mem_range.mpr hj))⟩
  have all : ∀ i, i < 7 → PySem.W.exmOne K (.ref (cs.getD i 0)) (.ref R) = some true ∧ XCls K (cs.getD i 0) ∧ PySem.W.kitOne K (.ref (cs.getD i 0)) (.type "ValueError") = some true := fun i hi => by
    have := (one i hi).1
    unfold xOne at this
    rw [Bool.and_eq_true, Bool.and_eq_true, Bool.and_eq_true, Bool.and_eq_true, Bool.and_eq_true, Bool.and_eq_true, beq_iff_eq, beq_iff_eq, beq_iff_eq, beq_iff_eq, beq_iff_eq, beq_iff_eq, beq_iff_eq] at this
    obtain ⟨a, b, c, d, e, f, g⟩ := this
    exact ⟨a, ⟨b, c, d, e, f⟩, g⟩
  refine ⟨fun i hi => ?_, fun i hi => ?_, fun i hi => ?_, fun i j hi hj => ?_⟩
  · rw [hc i hi, hR]; exact (all i hi).1
  · rw [hc i hi]; exact (all i hi).2.1
  · rw [hc i hi]; exact (all i hi).2.2
  · rw [hc i hi, hc j hj]; exact (one i hi).2 j hj
structure CnE (e : Expr) (v : V) : Prop where
  ev : ∀ X : Cx, PE X e (tC v)
  st : ∀ (es : List Expr) (env : Env), starEach (e :: es) env = (false, eval e env) :: starEach es env
theorem CnE.int {i : Int} {j : Nat} {p : Pos} : CnE (.Constant (.int i) j p) (.int i) := ⟨fun _ => pe_int, fun _ _ => rfl⟩
theorem CnE.non {j : Nat} {p : Pos} : CnE (.Constant .none j p) .non := ⟨fun _ => pe_non, fun _ _ => rfl⟩
theorem CnE.neg {i : Int} {j : Nat} {p p' : Pos} : CnE (.UnaryOp .USub (.Constant (.int i) j p) p') (.int (-i)) := ⟨fun X pins s σ H Q I h => pe_un un_neg pe_int pins s σ H Q I ⟨i, rfl, h⟩, fun _ _ => rfl⟩
inductive CnEs : List Expr → List V → Prop where
  | nil : CnEs [] []
  | cons {e : Expr} {v : V} {es : List Expr} {vs : List V} (h : CnE e v) (r : CnEs es vs) : CnEs (e :: es) (v :: vs)
theorem CnEs.pa {X : Cx} {es : List Expr} {vs : List V} (h : CnEs es vs) : PA X es (fun _ H Q => Q vs H) := by
  induction h with
  | nil => exact pa_nil
  | cons h r ih => exact pa_cons (h.ev X) ih (h.st _ _)
def tCl (vs : List V) : TE := fun _ H Q => vs.length ≤ sizeLine ∧ ∀ p, H p = none → Q (.ref p) (upd H p (.lst vs))
theorem pe_cl {X : Cx} {es : List Expr} {vs : List V} {pos : Pos} (h : CnEs es vs) : PE X (.List es pos) (tCl vs) := pe_lst h.pa
def tCt (vs : List V) : TE := fun _ H Q => vs.length ≤ sizeLine ∧ ∀ p, H p = none → Q (.ref p) (upd H p (.tup vs))
theorem pe_ct {X : Cx} {es : List Expr} {vs : List V} {x1} {pos : Pos} (h : CnEs es vs) : PE X (.Tuple es x1 pos) (tCt vs) := pe_tup h.pa
section
variable {es : List Expr} {env : Env} {xs : List Expr} {p : Pos}
theorem st_List : starEach (.List xs p :: es) env = (false, eval (.List xs p) env) :: starEach es env := rfl
theorem st_Tuple {x1} : starEach (.Tuple xs x1 p :: es) env = (false, eval (.Tuple xs x1 p) env) :: starEach es env := rfl
theorem st_Constant {c j} : starEach (.Constant c j p :: es) env = (false, eval (.Constant c j p) env) :: starEach es env := rfl
theorem st_Name {x} : starEach (.Name x p :: es) env = (false, eval (.Name x p) env) :: starEach es env := rfl
theorem st_BinOp {a b : Expr} {o} : starEach (.BinOp a o b p :: es) env = (false, eval (.BinOp a o b p) env) :: starEach es env := rfl
theorem st_UnaryOp {a : Expr} {o} : starEach (.UnaryOp o a p :: es) env = (false, eval (.UnaryOp o a p) env) :: starEach es env := rfl
end
end L2

namespace Vt
open PySem L2
theorem kit_int_int (K : PySem.W.Frag) : PySem.W.kitOne K (.type "int") (.type "int") = some true := by kernel_rfl
theorem kit_int_bool (K : PySem.W.Frag) : PySem.W.kitOne K (.type "int") (.type "bool") = some false := by kernel_rfl
theorem kit_list_list (K : PySem.W.Frag) : PySem.W.kitOne K (.type "list") (.type "list") = some true := by kernel_rfl
theorem kit_tuple_tuple (K : PySem.W.Frag) : PySem.W.kitOne K (.type "tuple") (.type "tuple") = some true := by kernel_rfl
theorem len1 {us : List Value} (h : us.length = 1) : ∃ a, us = [a] := List.length_eq_one_iff.mp h
theorem len2 {us : List Value} (h : us.length = 2) : ∃ a b, us = [a, b] := by
  obtain ⟨a, r, rfl⟩ := List.exists_cons_of_length_eq_add_one h
  obtain ⟨b, rfl⟩ := len1 (us := r) (Nat.succ.inj h)
  exact ⟨a, b, rfl⟩
theorem len3 {us : List Value} (h : us.length = 3) : ∃ a b c, us = [a, b, c] := by
  obtain ⟨a, r, rfl⟩ := List.exists_cons_of_length_eq_add_one h
  obtain ⟨b, c, rfl⟩ := len2 (us := r) (Nat.succ.inj h)
  exact ⟨a, b, c, rfl⟩
theorem len4 {us : List Value} (h : us.length = 4) : ∃ a b c d, us = [a, b, c, d] := by
  obtain ⟨a, r, rfl⟩ := List.exists_cons_of_length_eq_add_one h
  obtain ⟨b, c, d, rfl⟩ := len3 (us := r) (Nat.succ.inj h)
  exact ⟨a, b, c, d, rfl⟩
theorem len5 {us : List Value} (h : us.length = 5) : ∃ a b c d e, us = [a, b, c, d, e] := by
  obtain ⟨a, r, rfl⟩ := List.exists_cons_of_length_eq_add_one h
  obtain ⟨b, c, d, e, rfl⟩ := len4 (us := r) (Nat.succ.inj h)
  exact ⟨a, b, c, d, e, rfl⟩
theorem len6 {us : List Value} (h : us.length = 6) : ∃ a b c d e f, us = [a, b, c, d, e, f] := by
  obtain ⟨a, r, rfl⟩ := List.exists_cons_of_length_eq_add_one h
  obtain ⟨b, c, d, e, f, rfl⟩ := len5 (us := r) (Nat.succ.inj h)
  exact ⟨a, b, c, d, e, f, rfl⟩
theorem len7 {us : List Value} (h : us.length = 7) : ∃ a b c d e f g, us = [a, b, c, d, e, f, g] := by
  obtain ⟨a, r, rfl⟩ := List.exists_cons_of_length_eq_add_one h
  obtain ⟨b, c, d, e, f, g, rfl⟩ := len6 (us := r) (Nat.succ.inj h)
  exact ⟨a, b, c, d, e, f, g, rfl⟩
def top (i : Nat) : Stmt := PySem.Challenge.pw_valleytree_k15_each_refusal_its_own.main.body.getD i (.Pass ⟨0, 0, 0, 0⟩)
abbrev s_check_size : Stmt := top 11
abbrev s_check_place : Stmt := top 12
abbrev s_check_gap : Stmt := top 13
abbrev s_check_stretch : Stmt := top 14
abbrev s_Row_init : Stmt := inClass (top 15) 0
abbrev s_Row_numbers : Stmt := inClass (top 15) 1
abbrev s_Row_set_at : Stmt := inClass (top 15) 2
abbrev s_Row_take_out : Stmt := inClass (top 15) 3
abbrev s_Row_put_in : Stmt := inClass (top 15) 4
abbrev s_Row_add_to : Stmt := inClass (top 15) 5
abbrev s_Row_cut : Stmt := inClass (top 15) 6
abbrev s_joined : Stmt := top 16
abbrev s_least : Stmt := top 18
abbrev s_tree_over : Stmt := top 21
abbrev s_tree_of : Stmt := top 22
abbrev s_head_under : Stmt := top 23
abbrev s_is_part : Stmt := top 24
abbrev s_is_tree : Stmt := top 25
abbrev s_check_tree : Stmt := top 26
abbrev s_check_places : Stmt := top 27
abbrev s_check_number : Stmt := top 28
abbrev s_tree_counts : Stmt := top 29
abbrev s_many_trees : Stmt := top 30
abbrev s_tree_at : Stmt := top 33
abbrev s_tree_number : Stmt := top 35
abbrev s_ways_to_take : Stmt := top 37
abbrev s_many_in_part : Stmt := top 38
abbrev s_many_orders : Stmt := top 39
abbrev s_order_at : Stmt := top 43
abbrev s_check_order : Stmt := top 44
abbrev s_order_number : Stmt := top 46
abbrev s_towers_of : Stmt := top 48
abbrev s_widest : Stmt := top 50
abbrev s_water : Stmt := top 52
abbrev s_law_cell_at : Stmt := top 54
abbrev s_law_which : Stmt := top 55
abbrev s_law_no_row : Stmt := top 56
abbrev s_law_no_place : Stmt := top 57
abbrev s_law_no_stretch : Stmt := top 58
abbrev s_law_no_tree : Stmt := top 59
abbrev s_law_no_order : Stmt := top 60
abbrev s_law_no_number : Stmt := top 61
abbrev s_law_no_sky : Stmt := top 62
abbrev s_law_done : Stmt := top 63
abbrev s_law : Stmt := top 64
theorem sc_check_size : FnScope ["size"] ["size"] (defScope s_check_size) := ⟨rfl, rfl, rfl, by decide +kernel, rfl, by decide +kernel, by decide +kernel⟩
theorem sc_check_place : FnScope ["size", "place"] ["size", "place"] (defScope s_check_place) := ⟨rfl, rfl, rfl, by decide +kernel, rfl, by decide +kernel, by decide +kernel⟩
theorem sc_check_gap : FnScope ["size", "place"] ["size", "place"] (defScope s_check_gap) := ⟨rfl, rfl, rfl, by decide +kernel, rfl, by decide +kernel, by decide +kernel⟩
theorem sc_check_stretch : FnScope ["size", "first", "behind"] ["size", "first", "behind"] (defScope s_check_stretch) := ⟨rfl, rfl, rfl, by decide +kernel, rfl, by decide +kernel, by decide +kernel⟩
theorem sc_Row_init : FnScope ["self", "numbers"] ["self", "numbers"] (defScope s_Row_init) := ⟨rfl, rfl, rfl, by decide +kernel, rfl, by decide +kernel, by decide +kernel⟩
theorem sc_Row_numbers : FnScope ["self"] ["self"] (defScope s_Row_numbers) := ⟨rfl, rfl, rfl, by decide +kernel, rfl, by decide +kernel, by decide +kernel⟩
theorem sc_Row_set_at : FnScope ["self", "place", "number"] ["self", "place", "number"] (defScope s_Row_set_at) := ⟨rfl, rfl, rfl, by decide +kernel, rfl, by decide +kernel, by decide +kernel⟩
theorem sc_Row_take_out : FnScope ["self", "place"] ["self", "place"] (defScope s_Row_take_out) := ⟨rfl, rfl, rfl, by decide +kernel, rfl, by decide +kernel, by decide +kernel⟩
theorem sc_Row_put_in : FnScope ["self", "place", "number"] ["self", "place", "number"] (defScope s_Row_put_in) := ⟨rfl, rfl, rfl, by decide +kernel, rfl, by decide +kernel, by decide +kernel⟩
theorem sc_Row_add_to : FnScope ["self", "first", "behind", "number", "place"] ["self", "first", "behind", "number"] (defScope s_Row_add_to) := ⟨rfl, rfl, rfl, by decide +kernel, rfl, by decide +kernel, by decide +kernel⟩
theorem sc_Row_cut : FnScope ["self", "place"] ["self", "place"] (defScope s_Row_cut) := ⟨rfl, rfl, rfl, by decide +kernel, rfl, by decide +kernel, by decide +kernel⟩
theorem sc_joined : FnScope ["one", "other"] ["one", "other"] (defScope s_joined) := ⟨rfl, rfl, rfl, by decide +kernel, rfl, by decide +kernel, by decide +kernel⟩
theorem sc_least : FnScope ["row", "first", "behind", "numbers", "part", "lowest"] ["row", "first", "behind"] (defScope s_least) := ⟨rfl, rfl, rfl, by decide +kernel, rfl, by decide +kernel, by decide +kernel⟩
theorem sc_tree_over : FnScope ["row", "first", "behind", "over", "head"] ["row", "first", "behind", "over"] (defScope s_tree_over) := ⟨rfl, rfl, rfl, by decide +kernel, rfl, by decide +kernel, by decide +kernel⟩
theorem sc_tree_of : FnScope ["row"] ["row"] (defScope s_tree_of) := ⟨rfl, rfl, rfl, by decide +kernel, rfl, by decide +kernel, by decide +kernel⟩
theorem sc_head_under : FnScope ["tree", "first", "behind", "over"] ["tree", "first", "behind", "over"] (defScope s_head_under) := ⟨rfl, rfl, rfl, by decide +kernel, rfl, by decide +kernel, by decide +kernel⟩
theorem sc_is_part : FnScope ["some", "first", "behind", "over", "head"] ["some", "first", "behind", "over"] (defScope s_is_part) := ⟨rfl, rfl, rfl, by decide +kernel, rfl, by decide +kernel, by decide +kernel⟩
theorem sc_is_tree : FnScope ["some"] ["some"] (defScope s_is_tree) := ⟨rfl, rfl, rfl, by decide +kernel, rfl, by decide +kernel, by decide +kernel⟩
theorem sc_check_tree : FnScope ["some"] ["some"] (defScope s_check_tree) := ⟨rfl, rfl, rfl, by decide +kernel, rfl, by decide +kernel, by decide +kernel⟩
theorem sc_check_places : FnScope ["size"] ["size"] (defScope s_check_places) := ⟨rfl, rfl, rfl, by decide +kernel, rfl, by decide +kernel, by decide +kernel⟩
theorem sc_check_number : FnScope ["many", "number"] ["many", "number"] (defScope s_check_number) := ⟨rfl, rfl, rfl, by decide +kernel, rfl, by decide +kernel, by decide +kernel⟩
theorem sc_tree_counts : FnScope ["size", "counts", "places"] ["size"] (defScope s_tree_counts) := ⟨rfl, rfl, rfl, by decide +kernel, rfl, by decide +kernel, by decide +kernel⟩
theorem sc_many_trees : FnScope ["size"] ["size"] (defScope s_many_trees) := ⟨rfl, rfl, rfl, by decide +kernel, rfl, by decide +kernel, by decide +kernel⟩
theorem sc_tree_at : FnScope ["size", "number", "counts"] ["size", "number"] (defScope s_tree_at) := ⟨rfl, rfl, rfl, by decide +kernel, rfl, by decide +kernel, by decide +kernel⟩
theorem sc_tree_number : FnScope ["tree"] ["tree"] (defScope s_tree_number) := ⟨rfl, rfl, rfl, by decide +kernel, rfl, by decide +kernel, by decide +kernel⟩
theorem sc_ways_to_take : FnScope ["many", "taken", "ways", "step"] ["many", "taken"] (defScope s_ways_to_take) := ⟨rfl, rfl, rfl, by decide +kernel, rfl, by decide +kernel, by decide +kernel⟩
theorem sc_many_in_part : FnScope ["tree", "first", "behind", "over", "head", "ahead", "rest"] ["tree", "first", "behind", "over"] (defScope s_many_in_part) := ⟨rfl, rfl, rfl, by decide +kernel, rfl, by decide +kernel, by decide +kernel⟩
theorem sc_many_orders : FnScope ["tree"] ["tree"] (defScope s_many_orders) := ⟨rfl, rfl, rfl, by decide +kernel, rfl, by decide +kernel, by decide +kernel⟩
theorem sc_order_at : FnScope ["tree", "number"] ["tree", "number"] (defScope s_order_at) := ⟨rfl, rfl, rfl, by decide +kernel, rfl, by decide +kernel, by decide +kernel⟩
theorem sc_check_order : FnScope ["tree", "order", "once"] ["tree", "order"] (defScope s_check_order) := ⟨rfl, rfl, rfl, by decide +kernel, rfl, by decide +kernel, by decide +kernel⟩
theorem sc_order_number : FnScope ["tree", "order"] ["tree", "order"] (defScope s_order_number) := ⟨rfl, rfl, rfl, by decide +kernel, rfl, by decide +kernel, by decide +kernel⟩
theorem sc_towers_of : FnScope ["row", "towers"] ["row"] (defScope s_towers_of) := ⟨rfl, rfl, rfl, by decide +kernel, rfl, by decide +kernel, by decide +kernel⟩
theorem sc_widest : FnScope ["row", "towers"] ["row"] (defScope s_widest) := ⟨rfl, rfl, rfl, by decide +kernel, rfl, by decide +kernel, by decide +kernel⟩
theorem sc_water : FnScope ["row", "towers"] ["row"] (defScope s_water) := ⟨rfl, rfl, rfl, by decide +kernel, rfl, by decide +kernel, by decide +kernel⟩
theorem sc_law_cell_at : FnScope ["script", "k"] ["script", "k"] (defScope s_law_cell_at) := ⟨rfl, rfl, rfl, by decide +kernel, rfl, by decide +kernel, by decide +kernel⟩
theorem sc_law_which : FnScope ["e", "first"] ["e"] (defScope s_law_which) := ⟨rfl, rfl, rfl, by decide +kernel, rfl, by decide +kernel, by decide +kernel⟩
theorem sc_law_no_row : FnScope ["row", "full", "cell", "way"] ["row", "full", "cell"] (defScope s_law_no_row) := ⟨rfl, rfl, rfl, by decide +kernel, rfl, by decide +kernel, by decide +kernel⟩
theorem sc_law_no_place : FnScope ["row", "cell", "far", "way", "place"] ["row", "cell", "far"] (defScope s_law_no_place) := ⟨rfl, rfl, rfl, by decide +kernel, rfl, by decide +kernel, by decide +kernel⟩
theorem sc_law_no_stretch : FnScope ["row", "cell", "far", "some", "pair"] ["row", "cell", "far"] (defScope s_law_no_stretch) := ⟨rfl, rfl, rfl, by decide +kernel, rfl, by decide +kernel, by decide +kernel⟩
theorem sc_law_no_tree : FnScope ["cell", "far", "some", "tree", "way"] ["cell", "far"] (defScope s_law_no_tree) := ⟨rfl, rfl, rfl, by decide +kernel, rfl, by decide +kernel, by decide +kernel⟩
theorem sc_law_no_order : FnScope ["cell", "far", "some"] ["cell", "far"] (defScope s_law_no_order) := ⟨rfl, rfl, rfl, by decide +kernel, rfl, by decide +kernel, by decide +kernel⟩
theorem sc_law_no_number : FnScope ["cell", "far", "way", "some", "pair"] ["cell", "far"] (defScope s_law_no_number) := ⟨rfl, rfl, rfl, by decide +kernel, rfl, by decide +kernel, by decide +kernel⟩
theorem sc_law_no_sky : FnScope ["cell", "far", "rows"] ["cell", "far"] (defScope s_law_no_sky) := ⟨rfl, rfl, rfl, by decide +kernel, rfl, by decide +kernel, by decide +kernel⟩
theorem sc_law_done : FnScope ["way", "cell", "far", "row", "full"] ["way", "cell", "far", "row", "full"] (defScope s_law_done) := ⟨rfl, rfl, rfl, by decide +kernel, rfl, by decide +kernel, by decide +kernel⟩
theorem sc_law : FnScope ["script", "way", "far", "row", "full", "told", "e"] ["script"] (defScope s_law) := ⟨rfl, rfl, rfl, by decide +kernel, rfl, by decide +kernel, by decide +kernel⟩
structure Txt (K : PySem.W.Frag) (mg : Str → Option Value) (C : Addr) : Prop where
  cl : Cls K C
  n_held : NoAttr K C "held"
  g_MOST_NUMBERS : ∃ t, mg "MOST_NUMBERS" = some (.int 40 t)
  z_ValueError : mg "ValueError" = none
  z_min : mg "min" = none
  z_range : mg "range" = none
  z_sum : mg "sum" = none
  z_enumerate : mg "enumerate" = none
  z_sorted : mg "sorted" = none
  z_len : mg "len" = none
  z_any : mg "any" = none
  z_max : mg "max" = none
  z_list : mg "list" = none
  z_isinstance : mg "isinstance" = none
  e_RowError : ExcOf K mg "RowError"
  e_NoRow : ExcOf K mg "NoRow"
  e_NoPlace : ExcOf K mg "NoPlace"
  e_NoStretch : ExcOf K mg "NoStretch"
  e_NoTree : ExcOf K mg "NoTree"
  e_NoOrder : ExcOf K mg "NoOrder"
  e_NoNumber : ExcOf K mg "NoNumber"
  e_NoSky : ExcOf K mg "NoSky"
  x : XFacts K
def flds (d : Addr) : List (Str × V) := putF "held" (.ref d) []
theorem flds_held (d : Addr) : (flds d).lookup ("held" : Str) = some (.ref d) := by
  unfold flds
  rw [lookup_putF, if_pos rfl]
theorem flds_no (d : Addr) {m : Str} (h : ¬ m = "held") : (flds d).lookup m = none := by
  unfold flds
  rw [lookup_putF, if_neg h]
  rfl
structure RowAt (C : Addr) (H : Hp) (p d : Addr) (ns : List Int) : Prop where
  ob : ∃ dx, H p = some (.ins C dx (flds d))
  hd : H d = some (.lst (ns.map V.int))
  sm : ns.length ≤ 40
section
variable {C p d : Addr} {H H' : Hp} {ns ms : List Int}
theorem RowAt.same (R : RowAt C H p d ns) (s : Same H H') : RowAt C H' p d ns := ⟨let ⟨dx, e⟩ := R.ob; ⟨dx, s _ _ e⟩, s _ _ R.hd, R.sm⟩
theorem RowAt.ne (R : RowAt C H p d ns) : p ≠ d := by
  obtain ⟨dx, e⟩ := R.ob
  exact ne_of e R.hd (by intro z; cases z)
theorem RowAt.ne_lst {q : Addr} {xs : List V} (R : RowAt C H p d ns) (h : H q = some (.lst xs)) : p ≠ q := by
  obtain ⟨dx, e⟩ := R.ob
  exact ne_of e h (by intro z; cases z)
theorem RowAt.put (R : RowAt C H p d ns) (s : But d H H') (e : H' d = some (.lst (ms.map V.int))) (hm : ms.length ≤ 40) : RowAt C H' p d ms :=
  ⟨let ⟨dx, q⟩ := R.ob; ⟨dx, s _ _ q R.ne⟩, e, hm⟩
theorem RowAt.other {q : Addr} {xs : List V} (R : RowAt C H p d ns) (s : But q H H') (h : H q = some (.lst xs)) (hne : d ≠ q) : RowAt C H' p d ns :=
  ⟨let ⟨dx, e⟩ := R.ob; ⟨dx, s _ _ e (R.ne_lst h)⟩, s _ _ R.hd hne, R.sm⟩
end
def addN (ns : List Int) (f : Nat) (z : Int) : Nat → List Int
  | 0 => ns
  | n + 1 => (addN ns f z n).set (f + n) ((addN ns f z n).getD (f + n) 0 + z)
theorem addN_len (ns : List Int) (f : Nat) (z : Int) : ∀ n, (addN ns f z n).length = ns.length
  | 0 => rfl
  | n + 1 => by
    show ((addN ns f z n).set _ _).length = _
    rw [List.length_set, addN_len ns f z n]
theorem erase_int : ∀ (ns : List Int) (i : Nat), (ns.map V.int).eraseIdx i = (ns.eraseIdx i).map V.int
  | [], i => by simp
  | x :: r, 0 => rfl
  | x :: r, i + 1 => by
    show V.int x :: (r.map V.int).eraseIdx i = V.int x :: (r.eraseIdx i).map V.int
    rw [erase_int r i]
def sp_check_size (K : PySem.W.Frag) (C : Addr) : Sp := fun vs H Q _ => ∃ n : Int, vs = [.int n] ∧ n ≤ 40 ∧ Q .non H
def sp_check_place (K : PySem.W.Frag) (C : Addr) : Sp := fun vs H Q _ => ∃ n k : Int, vs = [.int n, .int k] ∧ 0 ≤ k ∧ k < n ∧ Q .non H
def sp_check_gap (K : PySem.W.Frag) (C : Addr) : Sp := fun vs H Q _ => ∃ n k : Int, vs = [.int n, .int k] ∧ 0 ≤ k ∧ k ≤ n ∧ Q .non H
def sp_check_stretch (K : PySem.W.Frag) (C : Addr) : Sp := fun vs H Q _ => ∃ n k b : Int, vs = [.int n, .int k, .int b] ∧ 0 ≤ k ∧ k < b ∧ b ≤ n ∧ Q .non H
def sp_Row_init (K : PySem.W.Frag) (C : Addr) : Sp := fun vs H Q _ => ∃ (p dx a : Addr) (ns : List Int), vs = [.ref p, .ref a] ∧ H p = some (.ins C dx []) ∧ SqL K H a (ns.map V.int) ∧ ns.length ≤ 40 ∧
  ∀ d, H d = none → Q .non (upd (upd H d (.lst (ns.map V.int))) p (.ins C dx (flds d)))
def sp_Row_numbers (K : PySem.W.Frag) (C : Addr) : Sp := fun vs H Q _ => ∃ (p d : Addr) (ns : List Int), vs = [.ref p] ∧ RowAt C H p d ns ∧ ∀ l, H l = none → Q (.ref l) (upd H l (.lst (ns.map V.int)))
def sp_Row_set_at (K : PySem.W.Frag) (C : Addr) : Sp := fun vs H Q _ => ∃ (p d : Addr) (ns : List Int) (k z : Int), vs = [.ref p, .int k, .int z] ∧ RowAt C H p d ns ∧ 0 ≤ k ∧ k < (ns.length : Int) ∧
  Q .non (upd H d (.lst ((ns.set k.toNat z).map V.int)))
def sp_Row_take_out (K : PySem.W.Frag) (C : Addr) : Sp := fun vs H Q _ => ∃ (p d : Addr) (ns : List Int) (k : Int), vs = [.ref p, .int k] ∧ RowAt C H p d ns ∧ 0 ≤ k ∧ k < (ns.length : Int) ∧
  Q (.int (ns.getD k.toNat 0)) (upd H d (.lst ((ns.eraseIdx k.toNat).map V.int)))
def sp_Row_put_in (K : PySem.W.Frag) (C : Addr) : Sp := fun vs H Q _ => ∃ (p d : Addr) (ns : List Int) (k z : Int), vs = [.ref p, .int k, .int z] ∧ RowAt C H p d ns ∧ ns.length < 40 ∧ 0 ≤ k ∧ k ≤ (ns.length : Int) ∧
  Q .non (upd H d (.lst ((ns.take k.toNat ++ z :: ns.drop k.toNat).map V.int)))
def sp_Row_add_to (K : PySem.W.Frag) (C : Addr) : Sp := fun vs H Q _ => ∃ (p d : Addr) (ns : List Int) (k b z : Int), vs = [.ref p, .int k, .int b, .int z] ∧ RowAt C H p d ns ∧ 0 ≤ k ∧ k < b ∧ b ≤ (ns.length : Int) ∧
  ∀ H', But d H H' → H' d = some (.lst ((addN ns k.toNat z (b - k).toNat).map V.int)) → Q .non H'
section
variable {P : Program} {w : World} {K : PySem.W.Frag} {mg : Str → Option Value} {base : Heap}
theorem d_check_size {f C : Addr} {fd : FuncData} (F : Fun K "check_size" "check_size" s_check_size f fd) (T : Txt K mg C)  : FnOk P w K mg base CX0 1 f fd ["size"] (sp_check_size K C) := by
  refine F.ok sc_check_size (fun vs H Q E h => ?_) (fun cdv A outer s H vs Q E hr h => ?_)
  · obtain ⟨n, rfl, _⟩ := h
    rfl
  · obtain ⟨n, rfl, h1, q⟩ := h
    refine ⟨_, (pss_one (ps_if (pt_cmpR op_gt (pv 0) (pe_glob (v := .int 40) rfl T.g_MOST_NUMBERS.choose_spec ⟨_, rfl⟩) (nomark _)) pss_never pss_nil)), ?_⟩
    refine ⟨_, rfl, _, _, rfl, rfl, _, rfl, ?_⟩
    exact ite2 (fun c => absurd (of_decide_eq_true c) (by omega)) (fun _ => q)
theorem d_check_stretch {f C : Addr} {fd : FuncData} (F : Fun K "check_stretch" "check_stretch" s_check_stretch f fd) (T : Txt K mg C)  : FnOk P w K mg base CX0 1 f fd ["size", "first", "behind"] (sp_check_stretch K C) := by
  refine F.ok sc_check_stretch (fun vs H Q E h => ?_) (fun cdv A outer s H vs Q E hr h => ?_)
  · obtain ⟨n, k, b, rfl, _⟩ := h
    rfl
  · obtain ⟨n, k, b, rfl, h0, h1, h2, q⟩ := h
    refine ⟨_, (pss_one (ps_if (pt_not (pt_chain3 op_le op_lt op_le pe_int (pv 1) (pv 2) (pv 0))) pss_never pss_nil)), ?_⟩
    exact ⟨_, rfl, _, _, rfl, rfl, _, rfl, ite2 (fun _ => ⟨_, rfl, _, _, rfl, rfl, _, rfl, ite2 (fun _ => ⟨_, rfl, _, _, rfl, rfl, _, rfl, iteNS h2 q⟩) (fun c => absurd (decide_eq_true h1) c)⟩) (fun c => absurd (decide_eq_true h0) c)⟩
theorem d_Row_init {f C : Addr} {fd : FuncData} (F : Fun K "__init__" "Row.__init__" s_Row_init f fd) (T : Txt K mg C) (D_check_size : Def P w K mg base 1 "check_size" ["size"] (sp_check_size K C)) : FnOk P w K mg base CX0 2 f fd ["self", "numbers"] (sp_Row_init K C) := by
  refine F.ok sc_Row_init (fun vs H Q E h => ?_) (fun cdv A outer s H vs Q E hr h => ?_)
  · obtain ⟨p, dx, a, ns, rfl, _⟩ := h
    rfl
  · obtain ⟨p, dx, a, ns, rfl, hp, hS, hl, q⟩ := h
    refine ⟨_, (pss_cons (ps_expr (pe_def D_check_size (hr.mono (by decide)) (pa_cons (pe_callB call_len_seq rfl T.z_len PySem.boot_len (pa_cons (pv 1) pa_nil)) pa_nil)))
      (pss_one (ps_fld (pv 0) (pe_callTy call_list_of rfl T.z_list PyProof.Rows.boot_list (pa_cons (pv 1) pa_nil)) rfl))), ?_⟩
    refine ⟨_, rfl, a, _, rfl, .inl hS, _, rfl, (by rw [List.length_map]; omega), ?_⟩
    refine ⟨_, rfl, a, _, rfl, .inl hS, fun d hd => ?_⟩
    exact ⟨_, rfl, p, C, dx, _, rfl, (by rw [upd_ne (ne_of_none hp hd)]; exact hp), T.cl, T.n_held, (by show 0 < 1000; decide), q d hd⟩
theorem make_row {C a : Addr} {H : Hp} {Q : VK} {ns : List Int} (hS : SqL K H a (ns.map V.int)) (hl : ns.length ≤ 40)
    (q : ∀ x d H', H x = none → H d = none → Same H H' → RowAt C H' x d ns → Q (.ref x) H') :
    ∀ x dx, H x = none → H dx = none → dx ≠ x → sp_Row_init K C [.ref x, .ref a] (upd (upd H dx (.own x)) x (.ins C dx [])) (fun v H2 => v = .non ∧ Q (.ref x) H2) E0 := by
  intro x dx hx hdx hne
  have s0 : Same H (upd (upd H dx (.own x)) x (.ins C dx [])) := fun b o e => by
    rw [upd_ne (ne_of_none e hx), upd_ne (ne_of_none e hdx)]
    exact e
  refine ⟨x, dx, a, ns, rfl, upd_same, s0.seq hS, hl, fun d hd => ⟨rfl, ?_⟩⟩
  have hd0 : H d = none := s0.free hd
  have hxd : x ≠ d := ne_of_none upd_same hd
  refine q x d _ hx hd0 (fun b o e => ?_) ⟨⟨dx, upd_same⟩, ?_, hl⟩
  · rw [upd_ne (ne_of_none e hx), upd_ne (ne_of_none e hd0)]
    exact s0 b o e
  · rw [upd_ne hxd.symm, upd_same]
def tNew (K : PySem.W.Frag) (C : Addr) (t : TA) : TE := fun σ H Q => t σ H fun vs H1 => ∃ (a : Addr) (ns : List Int), vs = [.ref a] ∧ SqL K H1 a (ns.map V.int) ∧ ns.length ≤ 40 ∧
  ∀ x d H', H1 x = none → H1 d = none → Same H1 H' → RowAt C H' x d ns → Q (.ref x) H'
theorem pe_Row {X : Cx} {k : Nat} {C : Addr} {ps : List Str} {e : Expr} {es : List Expr} {t : TA} {p pos : Pos} (D : DefC X.prog X.w X.K X.mg X.base k C "Row" ps (sp_Row_init X.K C)) (hr : Room (k + 1) X.A) (ha : PA X (e :: es) t)
    (hg : Gl X "Row" := by rfl) (hdb : (("Row" : Str) == ("__debug__" : Str)) = false := by decide)
    (he : starEach (e :: es) X.env = (false, eval e X.env) :: starEach es X.env := by rfl) (hpl : (backTo pos (starEach es X.env)).any (·.1) = false := by rfl) :
    PE X (.Call (.Name "Row" p) (e :: es) [] pos) (tNew X.K C t) := by
  obtain ⟨f, fd, F, M, hb, hm⟩ := D.ex
  intro pins s σ H Q I h
  refine wpAny_Call_Name_kw (ld_glob I hg hm ?_ hdb)
  refine PySem.W.callWith_K (h₀ := X.base) I.ok.mod.kin M.kp (thn (ha pos pins s σ H _ I h) fun us s1 ⟨vs, H1, I1, r, q⟩ => ⟨I1.kIn, ?_⟩) he hpl
  obtain ⟨a, ns, rfl, hS, hl, q⟩ := q
  exact run_make M F hr hb .nil pass0 I1 r (make_row hS hl q)
theorem pe_RowK {X : Cx} {K : PySem.W.Frag} (hK : X.K = K) {k : Nat} {C : Addr} {ps : List Str} {e : Expr} {es : List Expr} {t : TA} {p pos : Pos} (D : DefC X.prog X.w X.K X.mg X.base k C "Row" ps (sp_Row_init X.K C)) (hr : Room (k + 1) X.A) (ha : PA X (e :: es) t)
    (hg : Gl X "Row" := by rfl) (hdb : (("Row" : Str) == ("__debug__" : Str)) = false := by decide)
    (he : starEach (e :: es) X.env = (false, eval e X.env) :: starEach es X.env := by rfl) (hpl : (backTo pos (starEach es X.env)).any (·.1) = false := by rfl) :
    PE X (.Call (.Name "Row" p) (e :: es) [] pos) (tNew K C t) := by
  subst hK
  obtain ⟨f, fd, F, M, hb, hm⟩ := D.ex
  intro pins s σ H Q I h
  refine wpAny_Call_Name_kw (ld_glob I hg hm ?_ hdb)
  refine PySem.W.callWith_K (h₀ := X.base) I.ok.mod.kin M.kp (thn (ha pos pins s σ H _ I h) fun us s1 ⟨vs, H1, I1, r, q⟩ => ⟨I1.kIn, ?_⟩) he hpl
  obtain ⟨a, ns, rfl, hS, hl, q⟩ := q
  exact run_make M F hr hb .nil pass0 I1 r (make_row hS hl q)
theorem d_Row_numbers {f C : Addr} {fd : FuncData} (F : Fun K "numbers" "Row.numbers" s_Row_numbers f fd) (T : Txt K mg C)  : FnOk P w K mg base CX0 1 f fd ["self"] (sp_Row_numbers K C) := by
  refine F.ok sc_Row_numbers (fun vs H Q E h => ?_) (fun cdv A outer s H vs Q E hr h => ?_)
  · obtain ⟨p, d, ns, rfl, _⟩ := h
    rfl
  · obtain ⟨p, d, ns, rfl, R, q⟩ := h
    obtain ⟨dx, h1⟩ := R.ob
    refine ⟨_, (pss_one (ps_ret (pe_callTy call_list_of rfl T.z_list PyProof.Rows.boot_list (pa_cons (pe_fld (pv 0) rfl) pa_nil)))), ?_⟩
    exact ⟨_, rfl, p, C, dx, _, _, rfl, h1, T.cl, T.n_held, flds_held _, d, _, rfl, .inl (SqL.of R.hd), q⟩
def sp_law_cell_at (K : PySem.W.Frag) (C : Addr) : Sp := fun vs H Q _ => ∃ (a : Addr) (ns : List Int) (k : Int), vs = [.ref a, .int k] ∧ SqL K H a (ns.map V.int) ∧ 0 ≤ k ∧ Q (.int (ns.getD k.toNat 0)) H
theorem d_law_cell_at {f C : Addr} {fd : FuncData} (F : Fun K "_law_cell_at" "_law_cell_at" s_law_cell_at f fd) (T : Txt K mg C)  : FnOk P w K mg base CX0 1 f fd ["script", "k"] (sp_law_cell_at K C) := by
  refine F.ok sc_law_cell_at (fun vs H Q E h => ?_) (fun cdv A outer s H vs Q E hr h => ?_)
  · obtain ⟨a, ns, k, rfl, _⟩ := h
    rfl
  · obtain ⟨a, ns, k, rfl, hS, h0, q⟩ := h
    refine ⟨_, (pss_cons (ps_if (pt_cmpR op_lt (pv 1) (pe_callB call_len_seq rfl T.z_len PySem.boot_len (pa_cons (pv 0) pa_nil)) (nomark _)) (pss_one (ps_ret (pe_ix ix_list (pv 0) (pv 1) (fun _ _ => rfl)))) pss_nil)
      (pss_one (ps_ret pe_int))), ?_⟩
    refine ⟨_, rfl, _, rfl, a, _, rfl, .inl hS, _, _, rfl, rfl, _, rfl, ?_⟩
    refine ite2 (fun c => ?_) (fun c => ?_)
    · have c' : k < (((ns.map V.int).length : Nat) : Int) := of_decide_eq_true c
      rw [List.length_map] at c'
      exact ⟨_, rfl, _, rfl, a, _, _, _, rfl, rfl, hS, atI_int h0 c', q⟩
    · have c' : ¬ k < (((ns.map V.int).length : Nat) : Int) := fun z => c (decide_eq_true z)
      rw [List.length_map] at c'
      have e : ns.getD k.toNat 0 = 0 := by
        rw [List.getD_eq_getElem?_getD, List.getElem?_eq_none (by omega)]
        rfl
      rw [e] at q
      exact q
structure Least (ns : List Int) (f b : Nat) (m : Int) (i : Nat) : Prop where
  lo : f ≤ i
  hi : i < b
  at_ : ns.getD i 0 = m
  le : ∀ j, f ≤ j → j < b → m ≤ ns.getD j 0
  lt : ∀ j, f ≤ j → j < i → m < ns.getD j 0
theorem Least.one {ns : List Int} {f b : Nat} {m m' : Int} {i i' : Nat} (a : Least ns f b m i) (c : Least ns f b m' i') : m = m' ∧ i = i' := by
  have h1 := a.le i' c.lo c.hi
  have h2 := c.le i a.lo a.hi
  rw [c.at_] at h1
  rw [a.at_] at h2
  have e : m = m' := by omega
  refine ⟨e, ?_⟩
  rcases Nat.lt_trichotomy i i' with h | h | h
  · have := c.lt i a.lo h
    rw [a.at_] at this
    omega
  · exact h
  · have := a.lt i' c.lo h
    rw [c.at_] at this
    omega
theorem getD_part (ns : List Int) (f n j : Nat) (h : j < n) : ((ns.drop f).take n).getD j 0 = ns.getD (f + j) 0 := by
  simp only [List.getD_eq_getElem?_getD]
  rw [List.getElem?_take_of_lt h, List.getElem?_drop]
theorem least_of {ns : List Int} {f b : Nat} {m : Int} (hb : b ≤ ns.length) (hm : m ∈ (ns.drop f).take (b - f)) (hle : ∀ a ∈ (ns.drop f).take (b - f), m ≤ a) : Least ns f b m (f + ((ns.drop f).take (b - f)).idxOf m) := by
  have hl : ((ns.drop f).take (b - f)).length = b - f := by rw [List.length_take, List.length_drop]; omega
  have hj : ((ns.drop f).take (b - f)).idxOf m < ((ns.drop f).take (b - f)).length := List.idxOf_lt_length_iff.mpr hm
  have hg : ∀ j, f ≤ j → j < b → ((ns.drop f).take (b - f)).getD (j - f) 0 = ns.getD j 0 := fun j h1 h2 => by
    rw [getD_part ns f (b - f) (j - f) (by omega)]
    congr 1
    omega
  refine ⟨by omega, by omega, ?_, fun j h1 h2 => ?_, fun j h1 h2 => ?_⟩
  · rw [← getD_part ns f (b - f) _ (by omega), List.getD_eq_getElem?_getD, List.getElem?_eq_getElem hj]
    simp
  · rw [← hg j h1 h2]
    refine hle _ ?_
    rw [List.getD_eq_getElem?_getD, List.getElem?_eq_getElem (by omega)]
    exact List.getElem_mem _
  · have h3 : j < b := by omega
    have h4 : j - f < ((ns.drop f).take (b - f)).idxOf m := by omega
    have h5 : ((ns.drop f).take (b - f)).getD (j - f) 0 ∈ (ns.drop f).take (b - f) := by
      rw [List.getD_eq_getElem?_getD, List.getElem?_eq_getElem (by omega)]
      exact List.getElem_mem _
    have h6 := hle _ h5
    have h7 : ((ns.drop f).take (b - f)).getD (j - f) 0 ≠ m := fun e => by
      have h8 := PyProof.Rows.ne_of_lt_idxOf h4 (by omega)
      rw [List.getD_eq_getElem?_getD, List.getElem?_eq_getElem (show j - f < ((ns.drop f).take (b - f)).length by omega)] at e
      have e' : ((ns.drop f).take (b - f))[j - f] = m := e
      rw [e'] at h8
      simp at h8
    rw [hg j h1 h3] at h6 h7
    omega
def fm (ns : List Int) (f : Nat) : Nat → Int × Nat
  | 0 => (ns.getD f 0, f)
  | n + 1 => if ns.getD (f + n) 0 < (fm ns f n).1 then (ns.getD (f + n) 0, f + n) else fm ns f n
theorem fm_least (ns : List Int) (f : Nat) : ∀ n, Least ns f (f + (n + 1)) (fm ns f (n + 1)).1 (fm ns f (n + 1)).2
  | 0 => by
    have e : fm ns f 1 = (ns.getD f 0, f) := by
      show (if ns.getD (f + 0) 0 < ns.getD f 0 then _ else fm ns f 0) = _
      rw [if_neg (by rw [Nat.add_zero]; omega)]
      rfl
    rw [e]
    refine ⟨Nat.le_refl _, by omega, rfl, fun j h1 h2 => ?_, fun j h1 h2 => by omega⟩
    have : j = f := by omega
    subst this
    exact Int.le_refl _
  | n + 1 => by
    have ih := fm_least ns f n
    have e : fm ns f (n + 1 + 1) = if ns.getD (f + (n + 1)) 0 < (fm ns f (n + 1)).1 then (ns.getD (f + (n + 1)) 0, f + (n + 1)) else fm ns f (n + 1) := rfl
    rw [e]
    by_cases h : ns.getD (f + (n + 1)) 0 < (fm ns f (n + 1)).1
    · rw [if_pos h]
      refine ⟨by omega, by omega, rfl, fun j h1 h2 => ?_, fun j h1 h2 => ?_⟩
      · by_cases hj : j = f + (n + 1)
        · subst hj; exact Int.le_refl _
        · have := ih.le j h1 (by omega)
          show ns.getD (f + (n + 1)) 0 ≤ _
          omega
      · have := ih.le j h1 (show j < f + (n + 1) from h2)
        show ns.getD (f + (n + 1)) 0 < _
        omega
    · rw [if_neg h]
      refine ⟨ih.lo, by have := ih.hi; omega, ih.at_, fun j h1 h2 => ?_, ih.lt⟩
      by_cases hj : j = f + (n + 1)
      · subst hj; omega
      · exact ih.le j h1 (by omega)
def sp_least (K : PySem.W.Frag) (C : Addr) : Sp := fun vs H Q _ => ∃ (p d : Addr) (ns : List Int) (k b : Int), vs = [.ref p, .int k, .int b] ∧ RowAt C H p d ns ∧ 0 ≤ k ∧ k < b ∧ b ≤ (ns.length : Int) ∧
  ∀ (t : Addr) (H' : Hp) (m : Int) (i : Nat), Same H H' → H' t = some (.tup [.int m, .int i]) → Least ns k.toNat b.toNat m i → Q (.ref t) H'
theorem d_least {f C : Addr} {fd : FuncData} (F : Fun K "least" "least" s_least f fd) (T : Txt K mg C) (D_Row_numbers : DefM P w K mg base 1 C "numbers" ["self"] (sp_Row_numbers K C)) (D_check_stretch : Def P w K mg base 1 "check_stretch" ["size", "first", "behind"] (sp_check_stretch K C)) : FnOk P w K mg base CX0 2 f fd ["row", "first", "behind"] (sp_least K C) := by
  refine F.ok sc_least (fun vs H Q E h => ?_) (fun cdv A outer s H vs Q E hr h => ?_)
  · obtain ⟨p, d, ns, k, b, rfl, _⟩ := h
    rfl
  · obtain ⟨p, d, ns, k, b, rfl, R, h0, hk, hb, q⟩ := h
    obtain ⟨dx, o1⟩ := R.ob
    refine ⟨_, (pss_cons (ps_set (i := 3) sc_least.nd rfl (by first | exact Or.inl rfl | exact Or.inr rfl) (pe_defM0 D_Row_numbers T.cl (hr.mono (by decide)) (pv 0)))
      (pss_cons (ps_expr (pe_def D_check_stretch (hr.mono (by decide)) (pa_cons (pe_callB call_len_seq rfl T.z_len PySem.boot_len (pa_cons (pv 3) pa_nil)) (pa_cons (pv 1) (pa_cons (pv 2) pa_nil)))))
      (pss_cons (ps_set (i := 4) sc_least.nd rfl (by first | exact Or.inl rfl | exact Or.inr rfl) (pe_slice sl_list (pv 3) (po_some (pv 1)) (po_some (pv 2))))
      (pss_cons (ps_set (i := 5) sc_least.nd rfl (by first | exact Or.inl rfl | exact Or.inr rfl) (pe_callB (call_minL rfl) rfl T.z_min PyProof.Rows.boot_min (pa_cons (pv 4) pa_nil)))
      (pss_one (ps_ret (pe_tup (pa_cons (pv 5) (pa_cons (pe_op op_add (pv 1) (pe_bm PySem.F.plainAttrs_list PySem.F.slot_list_index PySem.F.type_list_index mt_index (pv 4) (pa_cons (pv 5) pa_nil))) pa_nil))))))))), ?_⟩
    refine ⟨_, rfl, p, dx, _, rfl, o1, flds_no _ (by decide +kernel), p, d, ns, rfl, R, fun a ha => ?_⟩
    have s1 := same_new ha (.lst (ns.map V.int))
    refine ⟨_, rfl, a, _, rfl, .inl (SqL.of upd_same), _, rfl, _, rfl, _, _, _, rfl, h0, hk, (by rw [List.length_map]; exact hb), ?_⟩
    refine ⟨_, rfl, _, rfl, _, rfl, _, rfl, _, rfl, a, _, rfl, SqL.of upd_same, fun a2 ha2 => ?_⟩
    rw [cut_both ns h0 (by omega) hb]
    have s2 := same_new ha2 (.lst (((ns.drop k.toNat).take (b.toNat - k.toNat)).map V.int))
    refine ⟨_, rfl, a2, _, rfl, SqL.of upd_same, (by rw [List.length_take, List.length_drop]; omega), fun m hm hle => ?_⟩
    refine ⟨_, rfl, _, rfl, _, rfl, .inl ⟨rfl, _, SqL.of upd_same⟩, _, rfl, a2, _, _, rfl, rfl, upd_same, hm, _, _, rfl, rfl, (by show 2 ≤ sizeLine; decide), fun t ht => ?_⟩
    have e : k + ((((ns.drop k.toNat).take (b.toNat - k.toNat)).idxOf m : Nat) : Int) = ((k.toNat + ((ns.drop k.toNat).take (b.toNat - k.toNat)).idxOf m : Nat) : Int) := by omega
    dsimp only
    rw [e]
    exact q t _ m _ ((s1.trans s2).trans (same_new ht _)) upd_same (least_of (by omega) hm hle)
def oV : Option Nat → V
  | none => .non
  | some n => .int (n : Int)
theorem oV_flat (x : Option Nat) : flatV (oV x) = true := by cases x <;> rfl
theorem oV_shape (x : Option Nat) : oV x = .non ∨ ∃ z, oV x = .int z := by
  cases x with
  | none => exact .inl rfl
  | some n => exact .inr ⟨_, rfl⟩
theorem oV_inj {x y : Option Nat} (h : oV x = oV y) : x = y := by
  cases x <;> cases y
  · rfl
  · cases h
  · cases h
  · have : ((_ : Nat) : Int) = ((_ : Nat) : Int) := V.int.inj h
    rw [Int.ofNat.inj this]
abbrev gn (ns : List Int) : Nat → Int := fun j => ns.getD j 0
noncomputable def tl (ns : List Int) : List V := (Cart.trees (gn ns) 0 ns.length none).map oV
theorem tl_len (ns : List Int) : (tl ns).length = ns.length := by
  unfold tl
  rw [List.length_map, Cart.trees_len]
theorem tl_flat (ns : List Int) : (tl ns).all flatV = true := by
  unfold tl
  rw [List.all_map, List.all_eq_true]
  intro x _
  exact oV_flat x
theorem tl_shape (ns : List Int) : ∀ x ∈ tl ns, x = .non ∨ ∃ z, x = .int z := by
  intro x hx
  obtain ⟨y, _, rfl⟩ := List.mem_map.mp hx
  exact oV_shape y
theorem head_of_least {ns : List Int} {f b i : Nat} {m : Int} (h : Least ns f b m i) : Cart.Head (gn ns) f (b - f) i := by
  have h1 := h.lo
  have h2 := h.hi
  refine ⟨h.lo, by omega, fun j z1 z2 => ?_, fun j z1 z2 => ?_⟩
  · have := h.lt j z1 z2
    rw [← h.at_] at this
    exact this
  · have := h.le j (by omega) (by omega)
    rw [← h.at_] at this
    exact this
def spN_tree_over (n : Nat) (K : PySem.W.Frag) (C : Addr) : Sp := fun vs H Q _ => ∃ (p d : Addr) (ns : List Int) (f b : Nat) (top : Option Nat), vs = [.ref p, .int (f : Int), .int (b : Int), oV top] ∧ RowAt C H p d ns ∧ f ≤ b ∧ b ≤ ns.length ∧ b - f < n ∧
    ∀ (l : Addr) (H' : Hp), Same H H' → H l = none → H' l = some (.lst ((Cart.trees (gn ns) f (b - f) top).map oV)) → Q (.ref l) H'
theorem spN0_tree_over {K : PySem.W.Frag} {C : Addr} {vs : List V} {H : Hp} {Q : VK} {E : XK} : ¬ spN_tree_over 0 K C vs H Q E := by
  rintro ⟨_, _, _, _, _, _, _, _, _, _, h, _⟩
  exact Nat.not_lt_zero _ h
def sp_tree_over (K : PySem.W.Frag) (C : Addr) : Sp := spN_tree_over 41 K C
theorem d_tree_over {f C : Addr} {fd : FuncData} (F : Fun K "tree_over" "tree_over" s_tree_over f fd) (T : Txt K mg C) (hmf : mg "tree_over" = some (.ref f)) (hkf : PySem.W.keepIn K (.ref f) = true) (hbf : Binds K fd ["row", "first", "behind", "over"] []) (D_least : Def P w K mg base 2 "least" ["row", "first", "behind"] (sp_least K C)) : FnOk P w K mg base CX0 (2 + 41) f fd ["row", "first", "behind", "over"] (sp_tree_over K C) := by
  refine rec_ok (x := "tree_over") (m := 2) (fun n => spN_tree_over n K C) (fun _ _ _ _ => spN0_tree_over) hmf hkf hbf (fun n D_tree_over => ?_) 41
  refine F.ok sc_tree_over (fun vs H Q E h => ?_) (fun cdv A outer s H vs Q E hr h => ?_)
  · obtain ⟨p, d, ns, f, b, top, rfl, _⟩ := h
    rfl
  · obtain ⟨p, d, ns, f, b, top, rfl, R, hfb, hb, hn, q⟩ := h
    have hs := R.sm
    refine ⟨_, (pss_cons (ps_if (pt_cmpR op_eq (pv 1) (pv 2) (nomark _)) (pss_one (ps_ret (pe_lst pa_nil))) pss_nil)
      (pss_cons (ps_set (i := 4) sc_tree_over.nd rfl (by first | exact Or.inl rfl | exact Or.inr rfl) (pe_ix ix_tup (pe_def D_least (hr.mono (by omega)) (pa_cons (pv 0) (pa_cons (pv 1) (pa_cons (pv 2) pa_nil)))) pe_int (fun _ _ => rfl)))
      (pss_one (ps_ret (pe_op op_cat (pe_op op_cat (pe_def D_tree_over (hr.mono (by omega)) (pa_cons (pv 0) (pa_cons (pv 1) (pa_cons (pv 4) (pa_cons (pv 4) pa_nil))))) (pe_lst (pa_cons (pv 3) pa_nil))) (pe_def D_tree_over (hr.mono (by omega)) (pa_cons (pv 0) (pa_cons (pe_op op_add (pv 4) pe_int) (pa_cons (pv 2) (pa_cons (pv 4) pa_nil)))))))))), ?_⟩
    refine ⟨_, rfl, _, rfl, rfl, _, rfl, ite2 (fun c => ?_) (fun c => ?_)⟩
    · have e : b - f = 0 := by
        have := V.int.inj (of_decide_eq_true c)
        omega
      rw [e, Cart.trees_zero] at q
      exact ⟨(by show 0 ≤ sizeLine; decide), fun l hl => q l _ (same_new hl _) hl upd_same⟩
    · have hlt : f < b := by
        rcases Nat.lt_or_ge f b with z | z
        · exact z
        · exact absurd (decide_eq_true (show V.int (f : Int) = V.int (b : Int) by rw [show f = b by omega])) c
      refine ⟨_, rfl, _, rfl, _, rfl, p, d, ns, (f : Int), (b : Int), rfl, R, (by omega), (by omega), (by omega), fun t H1 m i s1 ht L => ?_⟩
      rw [Int.toNat_natCast, Int.toNat_natCast] at L
      have hH := head_of_least L
      have i1 := hH.lo
      have i2 := hH.hi
      refine ⟨t, _, 1, .int (i : Int), rfl, rfl, SqT.of ht, rfl, ?_⟩
      dsimp only [gName, List.set]
      have R1 := R.same s1
      refine ⟨_, rfl, _, rfl, _, rfl, _, rfl, p, d, ns, f, i, some i, rfl, R1, i1, (by omega), (by omega), fun l1 H2 s2 hl1 e1 => ?_⟩
      refine ⟨_, rfl, (by show 1 ≤ sizeLine; decide), fun l2 hl2 => ?_⟩
      have s3 := same_new hl2 (.lst [oV top])
      refine ⟨l1, l2, _, _, rfl, rfl, s3 _ _ e1, upd_same, small (by rw [List.length_map, Cart.trees_len]; show i - f + 1 ≤ 1000; omega), fun l3 hl3 => ?_⟩
      have s4 := same_new hl3 (.lst ((Cart.trees (gn ns) f (i - f) (some i)).map oV ++ [oV top]))
      have s14 := s2.trans (s3.trans s4)
      have e3 : (upd (upd H2 l2 (.lst [oV top])) l3 (.lst ((Cart.trees (gn ns) f (i - f) (some i)).map oV ++ [oV top]))) l3 = _ := upd_same
      generalize upd (upd H2 l2 (.lst [oV top])) l3 (.lst ((Cart.trees (gn ns) f (i - f) (some i)).map oV ++ [oV top])) = H4 at s4 s14 e3 ⊢
      refine ⟨_, rfl, _, rfl, _, _, rfl, rfl, _, rfl, _, rfl, p, d, ns, i + 1, b, some i, rfl, R1.same s14, (by omega), hb, (by omega), fun l4 H5 s5 hl4 e4 => ?_⟩
      refine ⟨l3, l4, _, _, rfl, rfl, s5 _ _ e3, e4, small (by rw [List.length_append, List.length_map, List.length_map, Cart.trees_len, Cart.trees_len]; show i - f + 1 + _ ≤ 1000; omega), fun l5 hl5 => ?_⟩
      refine q l5 _ (s1.trans (s14.trans (s5.trans (same_new hl5 _)))) (s1.free (s14.free (s5.free hl5))) ?_
      rw [upd_same, Cart.trees_node top hH, List.map_append, List.map_cons, List.append_assoc]
      have e : f + (b - f) - (i + 1) = b - (i + 1) := by omega
      rw [e]
      rfl
def sp_tree_of (K : PySem.W.Frag) (C : Addr) : Sp := fun vs H Q _ => ∃ (p d : Addr) (ns : List Int), vs = [.ref p] ∧ RowAt C H p d ns ∧ ∀ (l : Addr) (H' : Hp), Same H H' → H l = none → H' l = some (.lst (tl ns)) → Q (.ref l) H'
theorem d_tree_of {f C : Addr} {fd : FuncData} (F : Fun K "tree_of" "tree_of" s_tree_of f fd) (T : Txt K mg C) (D_tree_over : Def P w K mg base 43 "tree_over" ["row", "first", "behind", "over"] (sp_tree_over K C)) (D_Row_numbers : DefM P w K mg base 1 C "numbers" ["self"] (sp_Row_numbers K C)) : FnOk P w K mg base CX0 44 f fd ["row"] (sp_tree_of K C) := by
  refine F.ok sc_tree_of (fun vs H Q E h => ?_) (fun cdv A outer s H vs Q E hr h => ?_)
  · obtain ⟨p, d, ns, rfl, _⟩ := h
    rfl
  · obtain ⟨p, d, ns, rfl, R, q⟩ := h
    obtain ⟨dx, o1⟩ := R.ob
    have hs := R.sm
    refine ⟨_, (pss_one (ps_ret (pe_def D_tree_over (hr.mono (by decide)) (pa_cons (pv 0) (pa_cons pe_int (pa_cons (pe_callB call_len_seq rfl T.z_len PySem.boot_len (pa_cons (pe_defM0 D_Row_numbers T.cl (hr.mono (by decide)) (pv 0)) pa_nil)) (pa_cons pe_non pa_nil))))))), ?_⟩
    refine ⟨_, rfl, _, rfl, p, dx, _, rfl, o1, flds_no _ (by decide +kernel), p, d, ns, rfl, R, fun a ha => ?_⟩
    have s1 := same_new ha (.lst (ns.map V.int))
    refine ⟨a, _, rfl, .inl (SqL.of upd_same), p, d, ns, 0, ns.length, none, ?_, R.same s1, Nat.zero_le _, Nat.le_refl _, (by omega), fun l H2 s2 hl e2 => ?_⟩
    · rw [List.length_map]
      rfl
    · exact q l H2 (s1.trans s2) (s1.free hl) e2
def IsT (xs : List V) : Prop := ∃ t : Cart.BT, 0 < t.size ∧ t.size ≤ 40 ∧ xs = (t.list 0 none).map oV
noncomputable def isT (xs : List V) : Bool := @decide (IsT xs) (Classical.propDecidable _)
theorem isT_true {xs : List V} (h : IsT xs) : isT xs = true := @decide_eq_true _ (Classical.propDecidable _) h
theorem isT_false {xs : List V} (h : ¬ IsT xs) : isT xs = false := @decide_eq_false _ (Classical.propDecidable _) h
theorem isT_tl {ns : List Int} (h : ns.length ≤ 40) : isT (tl ns) = decide (0 < ns.length) := by
  by_cases c : 0 < ns.length
  · rw [decide_eq_true c]
    exact isT_true ⟨Cart.tree (gn ns) 0 ns.length, by rw [Cart.tree_size]; exact c, by rw [Cart.tree_size]; exact h, rfl⟩
  · rw [decide_eq_false c]
    refine isT_false fun ⟨t, h1, _, e⟩ => c ?_
    have e2 := congrArg List.length e
    rw [tl_len, List.length_map, Cart.list_len] at e2
    omega
theorem oV_plain (x : Option Nat) : plainV (oV x) = true := by cases x <;> rfl
theorem plain_shape {xs : List V} (h : ∀ x ∈ xs, x = .non ∨ ∃ z, x = .int z) : ∀ x ∈ xs, plainV x = true := fun x hx => by
  rcases h x hx with e | ⟨z, e⟩ <;> rw [e] <;> rfl
structure FirstAt (xs : List V) (f b : Nat) (x : V) (i : Nat) : Prop where
  lo : f ≤ i
  hi : i < b
  at_ : xs[i]? = some x
  no : ∀ j, f ≤ j → j < i → xs[j]? ≠ some x
def sp_head_under (K : PySem.W.Frag) (C : Addr) : Sp := fun vs H Q _ => ∃ (a : Addr) (xs : List V) (f b i : Nat) (x : V), vs = [.ref a, .int (f : Int), .int (b : Int), x] ∧ SqL K H a xs ∧ (∀ x ∈ xs, plainV x = true) ∧ plainV x = true ∧ b ≤ xs.length ∧ FirstAt xs f b x i ∧
  ∀ H', Same H H' → Q (.int (i : Int)) H'
theorem d_head_under {f C : Addr} {fd : FuncData} (F : Fun K "head_under" "head_under" s_head_under f fd) (T : Txt K mg C)  : FnOk P w K mg base CX0 1 f fd ["tree", "first", "behind", "over"] (sp_head_under K C) := by
  refine F.ok sc_head_under (fun vs H Q E h => ?_) (fun cdv A outer s H vs Q E hr h => ?_)
  · obtain ⟨a, xs, f, b, i, x, rfl, _⟩ := h
    rfl
  · obtain ⟨a, xs, f, b, i, x, rfl, hS, hp, hx, hb, hf, q⟩ := h
    have h1 := hf.lo
    have h2 := hf.hi
    refine ⟨_, (pss_one (ps_ret (pe_op op_add (pv 1) (pe_bm PySem.F.plainAttrs_list PySem.F.slot_list_index PySem.F.type_list_index mt_indexV (pe_slice sl_list (pv 0) (po_some (pv 1)) (po_some (pv 2))) (pa_cons (pv 3) pa_nil))))), ?_⟩
    refine ⟨_, rfl, _, rfl, _, rfl, _, rfl, _, rfl, _, rfl, a, _, rfl, hS, fun l hl => ?_⟩
    rw [cutV_nn xs (by omega) hb]
    have s1 := same_new hl (.lst ((xs.drop f).take (b - f)))
    have hpl : ∀ y ∈ (xs.drop f).take (b - f), plainV y = true := fun y hy => hp y (part_mem hy)
    refine ⟨.inl ⟨rfl, _, SqL.of upd_same⟩, _, rfl, l, _, _, i - f, rfl, rfl, upd_same, plain_all hpl, plain_flat hx, ⟨x, ?_, ?_⟩, fun j z hj ez => ?_, _, _, rfl, rfl, ?_⟩
    · rw [getElem?_part xs (by omega), show f + (i - f) = i by omega]
      exact hf.at_
    · rw [plain_eqV hx hx, decide_eq_true rfl]
    · rw [getElem?_part xs (by omega)] at ez
      rw [plain_eqV (hp z (List.mem_of_getElem? ez)) hx]
      refine decide_eq_false fun e => hf.no (f + j) (by omega) (by omega) ?_
      rw [ez, e]
    · have e : (f : Int) + ((i - f : Nat) : Int) = (i : Int) := by omega
      dsimp only
      rw [e]
      exact q _ s1
def IsP (xs : List V) (f b : Nat) (top : Option Nat) : Prop := ∃ t : Cart.BT, t.size = b - f ∧ (xs.drop f).take (b - f) = (t.list f top).map oV
noncomputable def isP (xs : List V) (f b : Nat) (top : Option Nat) : Bool := @decide (IsP xs f b top) (Classical.propDecidable _)
theorem isP_true {xs : List V} {f b : Nat} {top : Option Nat} (h : IsP xs f b top) : isP xs f b top = true := @decide_eq_true _ (Classical.propDecidable _) h
theorem isP_false {xs : List V} {f b : Nat} {top : Option Nat} (h : ¬ IsP xs f b top) : isP xs f b top = false := @decide_eq_false _ (Classical.propDecidable _) h
theorem isP_iff {xs ys zs : List V} {f b f' b' f'' b'' : Nat} {top top' top'' : Option Nat} (h : IsP xs f b top ↔ IsP ys f' b' top' ∧ IsP zs f'' b'' top'') : isP xs f b top = (isP ys f' b' top' && isP zs f'' b'' top'') := by
  by_cases c : IsP ys f' b' top'
  · by_cases c2 : IsP zs f'' b'' top''
    · rw [isP_true c, isP_true c2, isP_true (h.mpr ⟨c, c2⟩)]; rfl
    · rw [isP_true c, isP_false c2, isP_false fun z => c2 (h.mp z).2]; rfl
  · rw [isP_false c, isP_false fun z => c (h.mp z).1]; rfl
theorem isP_nil (xs : List V) (f : Nat) (top : Option Nat) : isP xs f f top = true := isP_true ⟨.nil, by rw [Nat.sub_self]; rfl, by rw [Nat.sub_self, List.take_zero]; rfl⟩
theorem count_one {α : Type} {p : α → Bool} : ∀ {l : List α}, l.countP p = 1 → ∃ a z b, l = a ++ z :: b ∧ p z = true ∧ (∀ x ∈ a, p x = false) ∧ ∀ x ∈ b, p x = false
  | [], h => by cases h
  | x :: l, h => by
    rw [List.countP_cons] at h
    by_cases c : p x = true
    · rw [if_pos c] at h
      have h0 : l.countP p = 0 := by omega
      refine ⟨[], x, l, rfl, c, fun y hy => (by cases hy), fun y hy => ?_⟩
      rw [List.countP_eq_zero] at h0
      exact Bool.eq_false_iff.mpr (h0 y hy)
    · rw [if_neg c] at h
      obtain ⟨a, z, b, e, h1, h2, h3⟩ := count_one (l := l) (by omega)
      refine ⟨x :: a, z, b, by rw [e]; rfl, h1, fun y hy => ?_, h3⟩
      rcases List.mem_cons.mp hy with q | q
      · rw [q]; exact Bool.eq_false_iff.mpr c
      · exact h2 y q
theorem split_part {xs a b' : List V} {f b : Nat} {z : V} (h : (xs.drop f).take (b - f) = a ++ z :: b') (hb : b ≤ xs.length) : f + a.length < b ∧ (xs.drop f).take (f + a.length - f) = a ∧ (xs.drop (f + a.length + 1)).take (b - (f + a.length + 1)) = b' ∧ xs[f + a.length]? = some z := by
  have hl := congrArg List.length h
  rw [part_len xs hb, List.length_append, List.length_cons] at hl
  have h1 : f + a.length < b := by omega
  refine ⟨h1, ?_, ?_, ?_⟩
  · have e : f + a.length - f = a.length := by omega
    have h2 := congrArg (List.take a.length) h
    rw [List.take_take, Nat.min_eq_left (by omega), List.take_append_of_le_length (Nat.le_refl _), List.take_length] at h2
    rw [e, h2]
  · have h2 := congrArg (List.drop (a.length + 1)) h
    rw [List.drop_take, List.drop_drop] at h2
    have e1 : f + (a.length + 1) = f + a.length + 1 := by omega
    have e2 : b - f - (a.length + 1) = b - (f + a.length + 1) := by omega
    rw [e1, e2] at h2
    rw [h2]
    have e3 : a ++ z :: b' = (a ++ [z]) ++ b' := by rw [List.append_assoc]; rfl
    rw [e3, List.drop_append_of_le_length (by rw [List.length_append, List.length_singleton]; exact Nat.le_refl _), List.drop_of_length_le (by rw [List.length_append, List.length_singleton]; exact Nat.le_refl _)]
    rfl
  · have h2 := congrArg (fun l => l[a.length]?) h
    try dsimp only at h2
    rw [getElem?_part xs (by omega), List.getElem?_append_right (Nat.le_refl _), Nat.sub_self] at h2
    exact h2
theorem list_no_top {l r : Cart.BT} {f n : Nat} {top : Option Nat} (hO : Cart.Out f n top) (hn : l.size + r.size + 1 = n) : (∀ x ∈ (l.list f (some (f + l.size))).map oV, x ≠ oV top) ∧ ∀ x ∈ (r.list (f + l.size + 1) (some (f + l.size))).map oV, x ≠ oV top := by
  refine ⟨fun x hx e => ?_, fun x hx e => ?_⟩
  · obtain ⟨y, hy, rfl⟩ := List.mem_map.mp hx
    have e := oV_inj e
    rcases Cart.list_mem _ _ _ _ hy with z | ⟨q, z, z1, z2⟩
    · rcases hO _ (e.symm.trans z) with y | y <;> omega
    · rcases hO _ (e.symm.trans z) with y | y <;> omega
  · obtain ⟨y, hy, rfl⟩ := List.mem_map.mp hx
    have e := oV_inj e
    rcases Cart.list_mem _ _ _ _ hy with z | ⟨q, z, z1, z2⟩
    · rcases hO _ (e.symm.trans z) with y | y <;> omega
    · rcases hO _ (e.symm.trans z) with y | y <;> omega
theorem isP_node {xs : List V} {f b : Nat} {top : Option Nat} (hfb : f < b) (hO : Cart.Out f (b - f) top) (h : IsP xs f b top) : ∃ l r : Cart.BT, l.size + r.size + 1 = b - f ∧ (xs.drop f).take (b - f) = (l.list f (some (f + l.size))).map oV ++ oV top :: (r.list (f + l.size + 1) (some (f + l.size))).map oV := by
  obtain ⟨t, ht, e⟩ := h
  cases t with
  | nil =>
    have : (0 : Nat) = b - f := ht
    omega
  | node l r =>
    refine ⟨l, r, ht, ?_⟩
    rw [e]
    show (l.list f (some (f + l.size)) ++ top :: r.list (f + l.size + 1) (some (f + l.size))).map oV = _
    rw [List.map_append, List.map_cons]
theorem isP_count {xs : List V} {f b : Nat} {top : Option Nat} (hfb : f < b) (hO : Cart.Out f (b - f) top) (h : IsP xs f b top) : ((xs.drop f).take (b - f)).countP (fun z => eqV z (oV top)) = 1 := by
  obtain ⟨l, r, hn, e⟩ := isP_node hfb hO h
  obtain ⟨n1, n2⟩ := list_no_top hO hn
  have z : ∀ ys : List (Option Nat), (∀ x ∈ ys.map oV, x ≠ oV top) → (ys.map oV).countP (fun z => eqV z (oV top)) = 0 := fun ys hy => by
    rw [List.countP_eq_zero]
    intro x hx
    obtain ⟨y, _, rfl⟩ := List.mem_map.mp hx
    rw [plain_eqV (oV_plain y) (oV_plain top)]
    intro c
    exact hy _ hx (of_decide_eq_true c)
  rw [e, List.countP_append, List.countP_cons, z _ n1, z _ n2, plain_eqV (oV_plain top) (oV_plain top), decide_eq_true rfl]
  rfl
theorem isP_parts {xs : List V} {f b : Nat} {top : Option Nat} {x y : List V} (hb : b ≤ xs.length) (hO : Cart.Out f (b - f) top) (e : (xs.drop f).take (b - f) = x ++ oV top :: y) (hx : ∀ z ∈ x, z ≠ oV top) (hy : ∀ z ∈ y, z ≠ oV top) :
    IsP xs f b top ↔ IsP xs f (f + x.length) (some (f + x.length)) ∧ IsP xs (f + x.length + 1) b (some (f + x.length)) := by
  obtain ⟨h1, h2, h3, h4⟩ := split_part e hb
  constructor
  · intro h
    obtain ⟨l, r, hn, e'⟩ := isP_node (by omega) hO h
    obtain ⟨n1, n2⟩ := list_no_top hO hn
    rw [e] at e'
    have hl : x.length = l.size := by
      have ll : ((l.list f (some (f + l.size))).map oV).length = l.size := by rw [List.length_map, Cart.list_len]
      rcases Nat.lt_trichotomy x.length l.size with z | z | z
      · exfalso
        have q := congrArg (fun w => w[x.length]?) e'
        try dsimp only at q
        rw [List.getElem?_append_right (Nat.le_refl _), Nat.sub_self, List.getElem?_cons_zero, List.getElem?_append_left (by rw [ll]; exact z)] at q
        exact n1 _ (List.mem_of_getElem? q.symm) rfl
      · exact z
      · exfalso
        have q := congrArg (fun w => w[l.size]?) e'
        try dsimp only at q
        rw [List.getElem?_append_left z, List.getElem?_append_right (by rw [ll]; exact Nat.le_refl _), ll, Nat.sub_self, List.getElem?_cons_zero] at q
        exact hx _ (List.mem_of_getElem? q) rfl
    obtain ⟨q1, q2⟩ := List.append_inj e' (by rw [List.length_map, Cart.list_len]; exact hl)
    have q3 := (List.cons.inj q2).2
    rw [← hl] at q1 q3
    exact ⟨⟨l, by omega, h2.trans q1⟩, ⟨r, by omega, h3.trans q3⟩⟩
  · rintro ⟨⟨l, l1, l2⟩, ⟨r, r1, r2⟩⟩
    have hl : l.size = x.length := by omega
    refine ⟨.node l r, by show l.size + r.size + 1 = _; omega, ?_⟩
    rw [e]
    show _ = (l.list f (some (f + l.size)) ++ top :: r.list (f + l.size + 1) (some (f + l.size))).map oV
    rw [List.map_append, List.map_cons, hl, ← l2, ← r2, h2, h3]
def spN_is_part (n : Nat) (K : PySem.W.Frag) (C : Addr) : Sp := fun vs H Q _ => ∃ (a : Addr) (xs : List V) (f b : Nat) (top : Option Nat), vs = [.ref a, .int (f : Int), .int (b : Int), oV top] ∧ SqL K H a xs ∧ (∀ x ∈ xs, plainV x = true) ∧ f ≤ b ∧ b ≤ xs.length ∧ b - f < n ∧ Cart.Out f (b - f) top ∧
    ∀ H', Same H H' → Q (.bl (isP xs f b top)) H'
theorem spN0_is_part {K : PySem.W.Frag} {C : Addr} {vs : List V} {H : Hp} {Q : VK} {E : XK} : ¬ spN_is_part 0 K C vs H Q E := by
  rintro ⟨_, _, _, _, _, _, _, _, _, _, h, _⟩
  exact Nat.not_lt_zero _ h
def sp_is_part (K : PySem.W.Frag) (C : Addr) : Sp := spN_is_part 41 K C
theorem d_is_part {f C : Addr} {fd : FuncData} (F : Fun K "is_part" "is_part" s_is_part f fd) (T : Txt K mg C) (hmf : mg "is_part" = some (.ref f)) (hkf : PySem.W.keepIn K (.ref f) = true) (hbf : Binds K fd ["some", "first", "behind", "over"] []) (D_head_under : Def P w K mg base 1 "head_under" ["tree", "first", "behind", "over"] (sp_head_under K C)) : FnOk P w K mg base CX0 (1 + 41) f fd ["some", "first", "behind", "over"] (sp_is_part K C) := by
  refine rec_ok (x := "is_part") (m := 1) (fun n => spN_is_part n K C) (fun _ _ _ _ => spN0_is_part) hmf hkf hbf (fun n D_is_part => ?_) 41
  refine F.ok sc_is_part (fun vs H Q E h => ?_) (fun cdv A outer s H vs Q E hr h => ?_)
  · obtain ⟨a, xs, f, b, top, rfl, _⟩ := h
    rfl
  · obtain ⟨a, xs, f, b, top, rfl, hS, hp, hfb, hb, hn, hO, q⟩ := h
    refine ⟨_, (pss_cons (ps_if (pt_cmpR op_eq (pv 1) (pv 2) (nomark _)) (pss_one (ps_ret pe_bl)) pss_nil)
      (pss_cons (ps_if (pt_cmpR op_ne (pe_bm PySem.F.plainAttrs_list PySem.F.slot_list_count PySem.F.type_list_count mt_count (pe_slice sl_list (pv 0) (po_some (pv 1)) (po_some (pv 2))) (pa_cons (pv 3) pa_nil)) pe_int (nomark _)) (pss_one (ps_ret pe_bl)) pss_nil)
      (pss_cons (ps_set (i := 4) sc_is_part.nd rfl (by first | exact Or.inl rfl | exact Or.inr rfl) (pe_def D_head_under (hr.mono (by omega)) (pa_cons (pv 0) (pa_cons (pv 1) (pa_cons (pv 2) (pa_cons (pv 3) pa_nil))))))
      (pss_one (ps_ret (pe_and (pe_def D_is_part (hr.mono (by omega)) (pa_cons (pv 0) (pa_cons (pv 1) (pa_cons (pv 4) (pa_cons (pv 4) pa_nil))))) (pe_one (pe_def D_is_part (hr.mono (by omega)) (pa_cons (pv 0) (pa_cons (pe_op op_add (pv 4) pe_int) (pa_cons (pv 2) (pa_cons (pv 4) pa_nil)))))))))))), ?_⟩
    refine ⟨_, rfl, _, rfl, rfl, _, rfl, ite2 (fun c => ?_) (fun c => ?_)⟩
    · have e : f = b := by
        have := V.int.inj (of_decide_eq_true c)
        omega
      subst e
      rw [isP_nil] at q
      exact q H (Same.refl H)
    · have hlt : f < b := by
        rcases Nat.lt_or_ge f b with z | z
        · exact z
        · exact absurd (decide_eq_true (show V.int (f : Int) = V.int (b : Int) by rw [show f = b by omega])) c
      refine ⟨_, rfl, _, rfl, _, rfl, _, rfl, _, rfl, a, _, rfl, hS, fun l hl => ?_⟩
      rw [cutV_nn xs (by omega) hb]
      have s1 := same_new hl (.lst ((xs.drop f).take (b - f)))
      have hpl : ∀ y ∈ (xs.drop f).take (b - f), plainV y = true := fun y hy => hp y (part_mem hy)
      refine ⟨.inl ⟨rfl, _, SqL.of upd_same⟩, _, rfl, l, _, _, rfl, rfl, upd_same, plain_all hpl, oV_flat top, rfl, _, rfl, ite2 (fun c1 => ?_) (fun c1 => ?_)⟩
      · have c2 : ¬ ((xs.drop f).take (b - f)).countP (fun z => eqV z (oV top)) = 1 := fun z => by
          rw [z] at c1
          revert c1
          decide
        have q' := q _ s1
        rw [isP_false fun z => c2 (isP_count hlt hO z)] at q'
        exact q'
      · have c2 : ((xs.drop f).take (b - f)).countP (fun z => eqV z (oV top)) = 1 := by
          by_cases z : ((xs.drop f).take (b - f)).countP (fun z => eqV z (oV top)) = 1
          · exact z
          · refine absurd ?_ c1
            rw [decide_eq_false (fun e => z (by have := V.int.inj e; omega))]
            rfl
        obtain ⟨x, z, y, e, hz, hx, hy⟩ := count_one c2
        have pm : ∀ w ∈ x ++ z :: y, plainV w = true := fun w hw => hpl w (by rw [e]; exact hw)
        have ez : z = oV top := by
          rw [plain_eqV (pm z (List.mem_append_right _ (List.mem_cons_self ..))) (oV_plain top)] at hz
          exact of_decide_eq_true hz
        subst ez
        have hx' : ∀ w ∈ x, w ≠ oV top := fun w hw => by
          have := hx w hw
          rw [plain_eqV (pm w (List.mem_append_left _ hw)) (oV_plain top)] at this
          exact of_decide_eq_false this
        have hy' : ∀ w ∈ y, w ≠ oV top := fun w hw => by
          have := hy w hw
          rw [plain_eqV (pm w (List.mem_append_right _ (List.mem_cons_of_mem _ hw))) (oV_plain top)] at this
          exact of_decide_eq_false this
        obtain ⟨h1, h2, h3, h4⟩ := split_part e hb
        have hi := isP_iff (isP_parts hb hO e hx' hy')
        rw [hi] at q
        have hF : FirstAt xs f b (oV top) (f + x.length) := ⟨by omega, h1, h4, fun j z1 z2 z3 => by
          have q1 := congrArg (fun w => w[j - f]?) h2
          try dsimp only at q1
          rw [getElem?_part xs (b := f + x.length) (by omega), show f + (j - f) = j by omega, z3] at q1
          exact hx' _ (List.mem_of_getElem? q1.symm) rfl⟩
        clear hi h4 h3 h2 e c1 c2
        generalize f + x.length = i at h1 q hF
        refine ⟨_, rfl, _, rfl, _, rfl, _, rfl, a, xs, f, b, i, _, rfl, s1.seq hS, hp, oV_plain top, hb, hF, fun H2 s2 => ?_⟩
        have h0 := hF.lo
        have s12 := s1.trans s2
        dsimp only [gName, List.set]
        refine ⟨_, rfl, _, rfl, _, rfl, _, rfl, a, xs, f, i, some i, rfl, s12.seq hS, hp, h0, (by omega), (by omega), fun w z => (by cases z; right; omega), fun H3 s3 => ?_⟩
        refine ⟨_, rfl, ?_⟩
        have s13 := s12.trans s3
        cases ha : isP xs f i (some i) with
        | false =>
          rw [ha] at q
          exact iteF (q _ s13)
        | true =>
          rw [ha, Bool.true_and] at q
          refine iteT ?_
          exact ⟨_, rfl, _, rfl, _, _, rfl, rfl, _, rfl, _, rfl, a, xs, i + 1, b, some i, rfl, s13.seq hS, hp, by omega, hb, by omega, fun w z => (by cases z; left; omega), fun H4 s4 => q _ (s13.trans s4)⟩
theorem isT_isP {xs : List V} (h1 : 1 ≤ xs.length) (h2 : xs.length ≤ 40) : isT xs = isP xs 0 xs.length none := by
  have e : (xs.drop 0).take (xs.length - 0) = xs := by rw [List.drop_zero, Nat.sub_zero, List.take_length]
  by_cases c : IsP xs 0 xs.length none
  · rw [isP_true c]
    obtain ⟨t, ht, e'⟩ := c
    rw [e] at e'
    exact isT_true ⟨t, by omega, by omega, e'⟩
  · rw [isP_false c]
    refine isT_false fun ⟨t, z1, z2, e'⟩ => c ⟨t, ?_, by rw [e]; exact e'⟩
    have := congrArg List.length e'
    rw [List.length_map, Cart.list_len] at this
    omega
theorem isT_len {xs : List V} (h : ¬ (1 ≤ xs.length ∧ xs.length ≤ 40)) : isT xs = false := isT_false fun ⟨t, z1, z2, e'⟩ => h (by
  have := congrArg List.length e'
  rw [List.length_map, Cart.list_len] at this
  omega)
def sp_is_tree (K : PySem.W.Frag) (C : Addr) : Sp := fun vs H Q _ => ∃ (a : Addr) (xs : List V), vs = [.ref a] ∧ H a = some (.lst xs) ∧ (∀ x ∈ xs, x = .non ∨ ∃ z, x = .int z) ∧ xs.length ≤ 60 ∧ ∀ H', Same H H' → Q (.bl (isT xs)) H'
theorem d_is_tree {f C : Addr} {fd : FuncData} (F : Fun K "is_tree" "is_tree" s_is_tree f fd) (T : Txt K mg C) (D_is_part : Def P w K mg base 42 "is_part" ["some", "first", "behind", "over"] (sp_is_part K C)) : FnOk P w K mg base CX0 43 f fd ["some"] (sp_is_tree K C) := by
  refine F.ok sc_is_tree (fun vs H Q E h => ?_) (fun cdv A outer s H vs Q E hr h => ?_)
  · obtain ⟨a, xs, rfl, _⟩ := h
    rfl
  · obtain ⟨a, xs, rfl, hS0, hp, _, q⟩ := h
    have hS : SqL K H a xs := SqL.of hS0
    refine ⟨_, (pss_one (ps_ret (pe_and (pe_chain op_le op_le pe_int (pe_callB call_len_seq rfl T.z_len PySem.boot_len (pa_cons (pv 0) pa_nil)) (pe_glob (v := .int 40) rfl T.g_MOST_NUMBERS.choose_spec ⟨_, rfl⟩)) (pe_one (pe_def D_is_part (hr.mono (by decide)) (pa_cons (pv 0) (pa_cons pe_int (pa_cons (pe_callB call_len_seq rfl T.z_len PySem.boot_len (pa_cons (pv 0) pa_nil)) (pa_cons pe_non pa_nil))))))))), ?_⟩
    refine ⟨_, rfl, a, _, rfl, .inl hS, _, _, rfl, rfl, _, rfl, ite2 (fun c => ?_) (fun c => ?_)⟩
    · have c1 : (1 : Int) ≤ (xs.length : Int) := of_decide_eq_true c
      refine ⟨_, _, rfl, rfl, _, rfl, ite2 (fun c2 => ?_) (fun c2 => ?_)⟩
      · have c3 : (xs.length : Int) ≤ 40 := of_decide_eq_true c2
        have h1 : 1 ≤ xs.length := by omega
        have h2 : xs.length ≤ 40 := by omega
        rw [isT_isP h1 h2] at q
        exact ⟨_, rfl, _, rfl, a, _, rfl, .inl hS, a, xs, 0, xs.length, none, rfl, hS, plain_shape hp, Nat.zero_le _, Nat.le_refl _, by omega, Cart.Out.none, q⟩
      · have c3 : ¬ (xs.length : Int) ≤ 40 := fun z => c2 (decide_eq_true z)
        rw [isT_len (by omega)] at q
        exact q H (Same.refl H)
    · have c1 : ¬ (1 : Int) ≤ (xs.length : Int) := fun z => c (decide_eq_true z)
      rw [isT_len (by omega)] at q
      exact ⟨_, rfl, iteF (q H (Same.refl H))⟩
def bl (t : Cart.BT) : List V := (t.list 0 none).map oV
theorem bl_len (t : Cart.BT) : (bl t).length = t.size := by
  unfold bl
  rw [List.length_map, Cart.list_len]
theorem bl_flat (t : Cart.BT) : (bl t).all flatV = true := by
  unfold bl
  rw [List.all_map, List.all_eq_true]
  intro x _
  exact oV_flat x
theorem bl_shape (t : Cart.BT) : ∀ x ∈ bl t, x = .non ∨ ∃ z, x = .int z := by
  intro x hx
  obtain ⟨y, _, rfl⟩ := List.mem_map.mp hx
  exact oV_shape y
theorem bl_inj {t u : Cart.BT} (h : bl t = bl u) : t = u := by
  refine Cart.list_inj t u 0 none .none ?_
  have hm : ∀ {xs ys : List (Option Nat)}, xs.map oV = ys.map oV → xs = ys := by
    intro xs
    induction xs with
    | nil => intro ys h; cases ys with
      | nil => rfl
      | cons y ys => cases h
    | cons x xs ih => intro ys h; cases ys with
      | nil => cases h
      | cons y ys =>
        have h1 := (List.cons.inj h).1
        have h2 := (List.cons.inj h).2
        rw [oV_inj h1, ih h2]
  exact hm h
theorem bl_at {t : Cart.BT} {i : Nat} {x : Option Nat} (h : (t.list 0 none)[i]? = some x) : atI (bl t) (i : Int) = some (oV x) := by
  refine atI_nat ?_
  unfold bl
  rw [List.getElem?_map, h]
  rfl
def nV (n : Nat) : V := .int (n : Int)
theorem ints_nV (l : List Nat) : l.map nV = (l.map fun x : Nat => (x : Int)).map V.int := by
  rw [List.map_map]
  rfl
theorem getD_cast {l : List Nat} {i : Nat} : (l.map fun x : Nat => (x : Int)).getD i 0 = ((l.getD i 0 : Nat) : Int) := by
  simp only [List.getD_eq_getElem?_getD, List.getElem?_map]
  cases l[i]? <;> rfl
theorem tl_deep (t : Cart.BT) : tl ((t.deep 0).map fun x : Nat => (x : Int)) = bl t := by
  unfold tl bl Cart.trees
  congr 2
  refine Cart.tree_eq (Cart.fits_deep t _ 0 0 fun i hi => ?_) ?_
  · rw [Nat.zero_add]
    exact getD_cast
  · rw [List.length_map, Cart.deep_len]
structure Part (xs : List V) (f b : Nat) (top : Option Nat) (t : Cart.BT) : Prop where
  le : f ≤ b
  hi : b ≤ xs.length
  out : Cart.Out f (b - f) top
  size : t.size = b - f
  eq : (xs.drop f).take (b - f) = (t.list f top).map oV
theorem Part.whole {t : Cart.BT} : Part (bl t) 0 t.size none t where
  le := Nat.zero_le _
  hi := by rw [bl_len]; exact Nat.le_refl _
  out := Cart.Out.none
  size := rfl
  eq := by
    rw [List.drop_zero, Nat.sub_zero, ← bl_len t, List.take_length]
    rfl
theorem Part.node {xs : List V} {f b : Nat} {top : Option Nat} {l r : Cart.BT} (p : Part xs f b top (.node l r)) : FirstAt xs f b (oV top) (f + l.size) ∧ Part xs f (f + l.size) (some (f + l.size)) l ∧ Part xs (f + l.size + 1) b (some (f + l.size)) r := by
  have hs : l.size + r.size + 1 = b - f := p.size
  have e : (xs.drop f).take (b - f) = (l.list f (some (f + l.size))).map oV ++ oV top :: (r.list (f + l.size + 1) (some (f + l.size))).map oV := by
    rw [p.eq]
    show (l.list f (some (f + l.size)) ++ top :: r.list (f + l.size + 1) (some (f + l.size))).map oV = _
    rw [List.map_append, List.map_cons]
  have ll : ((l.list f (some (f + l.size))).map oV).length = l.size := by rw [List.length_map, Cart.list_len]
  obtain ⟨h1, h2, h3, h4⟩ := split_part e p.hi
  rw [ll] at h1 h2 h3 h4
  obtain ⟨n1, n2⟩ := list_no_top p.out hs
  have hb := p.hi
  refine ⟨⟨by omega, h1, h4, fun j z1 z2 z3 => ?_⟩, ⟨by omega, by omega, fun q z => ?_, by omega, h2⟩, ⟨by omega, hb, fun q z => ?_, by omega, h3⟩⟩
  · have q1 := congrArg (fun w => w[j - f]?) h2
    try dsimp only at q1
    rw [getElem?_part xs (b := f + l.size) (by omega), show f + (j - f) = j by omega, z3] at q1
    exact n1 _ (List.mem_of_getElem? q1.symm) rfl
  · cases z; right; omega
  · cases z; left; omega
theorem bl_plain (t : Cart.BT) : ∀ x ∈ bl t, plainV x = true := plain_shape (bl_shape t)
def sp_check_tree (K : PySem.W.Frag) (C : Addr) : Sp := fun vs H Q _ => ∃ (a : Addr) (t : Cart.BT), vs = [.ref a] ∧ H a = some (.lst (bl t)) ∧ 0 < t.size ∧ t.size ≤ 40 ∧ ∀ H', Same H H' → Q .non H'
theorem d_check_tree {f C : Addr} {fd : FuncData} (F : Fun K "check_tree" "check_tree" s_check_tree f fd) (T : Txt K mg C) (D_is_tree : Def P w K mg base 43 "is_tree" ["some"] (sp_is_tree K C)) : FnOk P w K mg base CX0 44 f fd ["some"] (sp_check_tree K C) := by
  refine F.ok sc_check_tree (fun vs H Q E h => ?_) (fun cdv A outer s H vs Q E hr h => ?_)
  · obtain ⟨a, t, rfl, _⟩ := h
    rfl
  · obtain ⟨a, t, rfl, ha, h1, h2, q⟩ := h
    refine ⟨_, (pss_one (ps_if (pt_not (pt_val (pe_def D_is_tree (hr.mono (by decide)) (pa_cons (pv 0) pa_nil)))) pss_never pss_nil)), ?_⟩
    refine ⟨_, rfl, a, _, rfl, ha, bl_shape t, (by rw [bl_len]; omega), fun H1 s1 => ⟨_, rfl, ?_⟩⟩
    have e : isT (bl t) = true := isT_true ⟨t, h1, h2, rfl⟩
    rw [e]
    exact iteF (q _ s1)
def sp_check_places (K : PySem.W.Frag) (C : Addr) : Sp := fun vs H Q _ => ∃ n : Int, vs = [.int n] ∧ 1 ≤ n ∧ n ≤ 40 ∧ Q .non H
theorem d_check_places {f C : Addr} {fd : FuncData} (F : Fun K "check_places" "check_places" s_check_places f fd) (T : Txt K mg C)  : FnOk P w K mg base CX0 1 f fd ["size"] (sp_check_places K C) := by
  refine F.ok sc_check_places (fun vs H Q E h => ?_) (fun cdv A outer s H vs Q E hr h => ?_)
  · obtain ⟨n, rfl, _⟩ := h
    rfl
  · obtain ⟨n, rfl, h0, h1, q⟩ := h
    refine ⟨_, (pss_one (ps_if (pt_not (pt_chain op_le op_le pe_int (pv 0) (pe_glob (v := .int 40) rfl T.g_MOST_NUMBERS.choose_spec ⟨_, rfl⟩))) pss_never pss_nil)), ?_⟩
    exact ⟨_, rfl, _, _, rfl, rfl, _, rfl, ite2 (fun _ => ⟨_, _, rfl, rfl, _, rfl, iteNS h1 q⟩) (fun c => absurd (decide_eq_true h0) c)⟩
def cats (N : Nat) : List V := ((List.range (N + 1)).map Cart.cat).map nV
theorem cats_at {k j : Nat} (hj : j < k + 1) : atI (cats k) (j : Int) = some (.int (Cart.cat j : Nat)) := by
  refine atI_nat ?_
  unfold cats
  rw [List.map_map, List.getElem?_map, List.getElem?_range hj]
  rfl
def sp_tree_counts (K : PySem.W.Frag) (C : Addr) : Sp := fun vs H Q _ => ∃ n : Nat, vs = [.int (n : Int)] ∧ n ≤ 40 ∧ ∀ (l : Addr) (H' : Hp), Same H H' → H l = none → H' l = some (.lst (cats n)) → Q (.ref l) H'
theorem d_tree_counts {f C : Addr} {fd : FuncData} (F : Fun K "tree_counts" "tree_counts" s_tree_counts f fd) (T : Txt K mg C)  : FnOk P w K mg base CX0 1 f fd ["size"] (sp_tree_counts K C) := by
  refine F.ok sc_tree_counts (fun vs H Q E h => ?_) (fun cdv A outer s H vs Q E hr h => ?_)
  · obtain ⟨n, rfl, _⟩ := h
    rfl
  · obtain ⟨n, rfl, hn, q⟩ := h
    refine ⟨_, (pss_cons (ps_set (i := 1) sc_tree_counts.nd rfl (by first | exact Or.inl rfl | exact Or.inr rfl) (pe_lst (pa_cons pe_int pa_nil)))
      (pss_cons (ps_for PassesOwn.never rfl (pi_range2 rfl T.z_range (pa_cons pe_int (pa_cons (pe_op op_add (pv 0) pe_int) pa_nil))) (pg_name (i := 2) sc_tree_counts.nd rfl (by first | exact Or.inl rfl | exact Or.inr rfl))
        (pss_one (ps_expr (pe_bm PySem.F.plainAttrs_list PySem.F.slot_list_append PySem.F.type_list_append mt_append (pv 1) (pa_cons (pe_callB (call_sumL rfl) rfl T.z_sum PyProof.Rows.boot_sum (pa_cons (pe_comp ["counts", "places"] [1, 2]  (pi_range1 rfl T.z_range (pa_cons (pv 2) pa_nil)) (fun _ _ _ _ => pts_nil) (fun _ _ _ _ => (pe_op op_mul (pe_ix (ix_listK (K := K) rfl) (pv 1) (pv 0) (fun _ _ => rfl)) (pe_ix (ix_listK (K := K) rfl) (pv 1) (pe_op op_sub (pe_op op_sub (pv 2) pe_int) (pv 0)) (fun _ _ => rfl))))) pa_nil)) pa_nil)))))
      (pss_one (ps_ret (pv 1))))), ?_⟩
    refine ⟨(by show 1 ≤ sizeLine; decide), fun l hl => ?_⟩
    refine ⟨_, rfl, _, _, rfl, rfl, 1, (n : Int) + 1, rfl, ⟨by decide, by decide, by omega, by omega⟩, for_range (lo := 1) (n := ((n : Int) + 1 - 1).toNat)
      (fun i σ H2 => ∃ v : Option V, σ = [some (.int (n : Int)), some (.ref l), v] ∧ Same H H2 ∧ H2 l = some (.lst (cats i))) ⟨_, rfl, same_new hl _, ?_⟩ ?_ ?_⟩
    · rw [upd_same]
      show some (HO.lst [V.int 1]) = some (HO.lst [V.int (Cart.cat 0 : Nat)])
      rw [show Cart.cat 0 = 1 by rw [Cart.cat]]
      rfl
    · rintro i σ H2 hi ⟨v, rfl, s2, e2⟩
      refine ⟨_, rfl, .inl ⟨rfl, _, SqL.of e2⟩, ?_⟩
      refine ⟨_, rfl, _, rfl, (by omega), (by omega), ?_⟩
      have en : (1 + (i : Int)).toNat = i + 1 := by omega
      rw [en]
      refine comp_range (fun _ => true) (fun j => .int ((Cart.cat j * Cart.cat (i - j) : Nat) : Int)) (by omega) (fun j H3 Q' hj t1 q' => q') (fun j H3 Q' hj _ t1 q' => ?_) fun D H3 t1 hD e3 => ?_
      · have e3 := t1 _ _ e2
        have e0 : (0 : Int) + (j : Int) = j := by omega
        have e1 : 1 + (i : Int) - 1 - (j : Int) = ((i - j : Nat) : Int) := by omega
        rw [e0]
        refine ⟨_, rfl, _, rfl, l, _, _, _, rfl, rfl, SqL.of e3, cats_at (by omega), _, rfl, _, rfl, _, _, rfl, rfl, _, rfl, _, _, rfl, rfl, l, _, _, _, rfl, rfl, SqL.of e3, (by rw [e1]; exact cats_at (by omega)), _, _, rfl, rfl, ?_, ?_⟩
        · rcases Cart.cat_pair (show j + (i - j) < 40 by omega) with z | z
          · exact .inl ⟨by omega, by omega⟩
          · exact .inr ⟨by omega, by omega⟩
        · have := q' _ (Same.refl _)
          rw [Int.natCast_mul] at this
          exact this
      · have e4 : (((List.range (i + 1)).filter fun _ => true).map fun j => V.int ((Cart.cat j * Cart.cat (i - j) : Nat) : Int)) = ((List.range (i + 1)).map fun j => ((Cart.cat j * Cart.cat (i - j) : Nat) : Int)).map V.int := by
          rw [List.filter_eq_self.mpr (fun _ _ => rfl), List.map_map]
          rfl
        rw [e4] at e3
        refine ⟨D, _, rfl, SqL.of e3, ?_⟩
        have es : ((List.range (i + 1)).map fun j => ((Cart.cat j * Cart.cat (i - j) : Nat) : Int)).sum = (Cart.cat (i + 1) : Nat) := by
          rw [Cart.cat_succ, ← Cart.sum_cast, List.map_map]
          rfl
        rw [es]
        have hcl : (cats i).length = i + 1 := by unfold cats; rw [List.length_map, List.length_map, List.length_range]
        refine ⟨l, _, _, rfl, rfl, t1 _ _ e2, small1000 (by omega), ?_⟩
        refine ⟨_, rfl, fun c o z => ?_, ?_⟩
        · rw [upd_ne (ne_of_none z hl)]; exact t1 _ _ (s2 _ _ z)
        · unfold cats
          rw [upd_same, List.range_succ (n := i + 1), List.map_append, List.map_append]
          rfl
    · rintro σ H2 ⟨v, rfl, s2, e2⟩
      have en : ((n : Int) + 1 - 1).toNat = n := by omega
      rw [en] at e2
      exact ⟨_, rfl, q l H2 s2 hl e2⟩
def HasT (o : List Nat) (t : Cart.BT) : Prop := o.Perm (List.range t.size) ∧ Cart.Fits (fun j => (o.getD j 0 : Nat)) 0 t
theorem HasT.len {o : List Nat} {t : Cart.BT} (h : HasT o t) : o.length = t.size := by rw [h.1.length_eq, List.length_range]
theorem HasT.fit {o : List Nat} {t : Cart.BT} (h : HasT o t) : Cart.FitL t o := (Cart.fit_iff t o _ 0 h.len fun i _ => by rw [Nat.zero_add]).mp h.2
theorem range_lt (n : Nat) : (List.range n).Pairwise (· < ·) := List.pairwise_lt_range
def ordNum (t : Cart.BT) (o : List Nat) : Nat := Cart.onum t (List.range t.size) o
theorem ordNum_lt {t : Cart.BT} {o : List Nat} (h : HasT o t) : ordNum t o < Cart.many t := (Cart.onum_ok t _ o (range_lt _) h.1 h.fit).1
theorem ordNum_inj {t : Cart.BT} {o o' : List Nat} (h : HasT o t) (h' : HasT o' t) (e : ordNum t o = ordNum t o') : o = o' := Cart.onum_inj (range_lt _) h.1 h'.1 h.fit h'.fit e
theorem nV_inj {a b : Nat} (h : nV a = nV b) : a = b := by
  have : ((a : Nat) : Int) = ((b : Nat) : Int) := V.int.inj h
  omega
theorem nVs_inj : ∀ {a b : List Nat}, a.map nV = b.map nV → a = b
  | [], [], _ => rfl
  | [], _ :: _, h => by cases h
  | _ :: _, [], h => by cases h
  | x :: a, y :: b, h => by
    have h1 := (List.cons.inj h).1
    have h2 := (List.cons.inj h).2
    rw [nV_inj h1, nVs_inj h2]
theorem nV_all (A : List Nat) : (A.map nV).all flatV = true := by
  rw [List.all_map, List.all_eq_true]; intro x _; rfl
theorem in_nV' (x : Nat) : ∀ B : List Nat, inV (nV x) (B.map nV) = decide (x ∈ B)
  | [] => rfl
  | y :: B => by
    show (eqV (nV y) (nV x) || inV (nV x) (B.map nV)) = _
    rw [in_nV' x B]
    have e : eqV (nV y) (nV x) = decide (x = y) := by
      show ((y : Int) == (x : Int)) = decide (x = y)
      rw [Bool.eq_iff_iff, beq_iff_eq, decide_eq_true_iff]
      omega
    rw [e]
    simp [List.mem_cons]
theorem srt_one : ∀ {a b : List Int}, a.Perm b → a.Pairwise (· ≤ ·) → b.Pairwise (· ≤ ·) → a = b
  | [], b, h, _, _ => (List.nil_perm.mp h).symm
  | x :: a, [], h, _, _ => by have := h.length_eq; simp at this
  | x :: a, y :: b, h, ha, hb => by
    have h1 := List.pairwise_cons.mp ha
    have h2 := List.pairwise_cons.mp hb
    have e : x = y := by
      have m1 : x ∈ y :: b := h.mem_iff.mp (List.mem_cons_self ..)
      have m2 : y ∈ x :: a := h.mem_iff.mpr (List.mem_cons_self ..)
      rcases List.mem_cons.mp m1 with e | e
      · exact e
      · rcases List.mem_cons.mp m2 with e' | e'
        · exact e'.symm
        · have := h1.1 y e'
          have := h2.1 x e
          omega
    subst e
    rw [srt_one (List.Perm.cons_inv h) h1.2 h2.2]
theorem srt_nV {E z : List Nat} {ms : List Int} (hp : ms.Perm (z.map fun x : Nat => (x : Int))) (hs : ms.Pairwise (· ≤ ·)) (h : z.Perm E) (hE : E.Pairwise (· < ·)) : ms.map V.int = E.map nV := by
  have e : ms = E.map fun x : Nat => (x : Int) := by
    refine srt_one (hp.trans (h.map _)) hs ?_
    rw [List.pairwise_map]
    exact hE.imp fun {a b} (q : a < b) => by omega
  rw [e, List.map_map]
  rfl
def sp_ways_to_take (K : PySem.W.Frag) (C : Addr) : Sp := fun vs H Q _ => ∃ n a : Nat, vs = [.int (n : Int), .int (a : Int)] ∧ n ≤ 40 ∧ a ≤ 41 ∧ Q (.int (Cart.choose n a : Nat)) H
theorem d_ways_to_take {f C : Addr} {fd : FuncData} (F : Fun K "ways_to_take" "ways_to_take" s_ways_to_take f fd) (T : Txt K mg C)  : FnOk P w K mg base CX0 1 f fd ["many", "taken"] (sp_ways_to_take K C) := by
  refine F.ok sc_ways_to_take (fun vs H Q E h => ?_) (fun cdv A outer s H vs Q E hr h => ?_)
  · obtain ⟨n, a, rfl, _⟩ := h
    rfl
  · obtain ⟨n, a, rfl, hn, ha, q⟩ := h
    refine ⟨_, (pss_cons (ps_set (i := 2) sc_ways_to_take.nd rfl (by first | exact Or.inl rfl | exact Or.inr rfl) pe_int)
      (pss_cons (ps_for PassesOwn.never rfl (pi_range1 rfl T.z_range (pa_cons (pv 1) pa_nil)) (pg_name (i := 3) sc_ways_to_take.nd rfl (by first | exact Or.inl rfl | exact Or.inr rfl))
        (pss_one (ps_set (i := 2) sc_ways_to_take.nd rfl (by first | exact Or.inl rfl | exact Or.inr rfl) (pe_op op_fdiv (pe_op op_mul (pv 2) (pe_op op_sub (pv 0) (pv 3))) (pe_op op_add (pv 3) pe_int)))))
      (pss_one (ps_ret (pv 2))))), ?_⟩
    refine ⟨_, rfl, _, rfl, (by omega), (by omega), for_range (lo := 0) (n := ((a : Nat) : Int).toNat)
      (fun i σ H2 => H2 = H ∧ ∃ v : Option V, σ = [some (.int (n : Int)), some (.int (a : Int)), some (.int (Cart.choose n i : Nat)), v]) ⟨rfl, none, (by rw [Cart.choose_zero]; rfl)⟩ ?_ ?_⟩
    · rintro i σ H2 hi ⟨rfl, v, rfl⟩
      have e0 : (0 : Int) + (i : Int) = i := by omega
      rw [e0]
      have hc := Cart.choose_small (k := i) hn
      refine ⟨_, rfl, _, rfl, _, rfl, _, _, rfl, rfl, _, _, rfl, rfl, .inl ⟨by omega, by omega⟩, _, rfl, _, _, rfl, rfl, _, _, rfl, rfl, ⟨by omega, by omega⟩, ?_⟩
      refine ⟨rfl, some (.int (i : Int)), ?_⟩
      have e1 : ((Cart.choose n i : Nat) : Int) * ((n : Int) - (i : Int)) = ((Cart.choose n i * (n - i) : Nat) : Int) := by
        rcases Nat.lt_or_ge n i with z | z
        · rw [Cart.choose_gt z]; simp
        · rw [Int.natCast_mul, Int.ofNat_sub z]
      have e2 : ((Cart.choose n i * (n - i) : Nat) : Int) / ((i : Int) + 1) = ((Cart.choose n (i + 1) : Nat) : Int) := by
        rw [← Cart.choose_div n i, Int.natCast_ediv]
        rfl
      try dsimp only [gName, List.set]
      rw [e1, e2]
    · rintro σ H2 ⟨rfl, v, rfl⟩
      rw [Int.toNat_natCast]
      exact ⟨_, rfl, q⟩
def spN_many_in_part (n : Nat) (K : PySem.W.Frag) (C : Addr) : Sp := fun vs H Q _ => ∃ (a : Addr) (xs : List V) (f b : Nat) (top : Option Nat) (t : Cart.BT), vs = [.ref a, .int (f : Int), .int (b : Int), oV top] ∧ SqL K H a xs ∧ (∀ x ∈ xs, plainV x = true) ∧ b - f ≤ 40 ∧ b - f < n ∧ b ≤ 100 ∧ Part xs f b top t ∧
  ∀ H', Same H H' → Q (.int (Cart.many t : Nat)) H'
theorem spN0_many_in_part {K : PySem.W.Frag} {C : Addr} {vs : List V} {H : Hp} {Q : VK} {E : XK} : ¬ spN_many_in_part 0 K C vs H Q E := by
  rintro ⟨_, _, _, _, _, _, _, _, _, _, h, _⟩
  exact Nat.not_lt_zero _ h
def sp_many_in_part (K : PySem.W.Frag) (C : Addr) : Sp := spN_many_in_part 41 K C
theorem d_many_in_part {f C : Addr} {fd : FuncData} (F : Fun K "many_in_part" "many_in_part" s_many_in_part f fd) (T : Txt K mg C) (hmf : mg "many_in_part" = some (.ref f)) (hkf : PySem.W.keepIn K (.ref f) = true) (hbf : Binds K fd ["tree", "first", "behind", "over"] []) (D_head_under : Def P w K mg base 1 "head_under" ["tree", "first", "behind", "over"] (sp_head_under K C)) (D_ways_to_take : Def P w K mg base 1 "ways_to_take" ["many", "taken"] (sp_ways_to_take K C)) : FnOk P w K mg base CX0 (1 + 41) f fd ["tree", "first", "behind", "over"] (sp_many_in_part K C) := by
  refine rec_ok (x := "many_in_part") (m := 1) (fun n => spN_many_in_part n K C) (fun _ _ _ _ => spN0_many_in_part) hmf hkf hbf (fun n D_many_in_part => ?_) 41
  refine F.ok sc_many_in_part (fun vs H Q E h => ?_) (fun cdv A outer s H vs Q E hr h => ?_)
  · obtain ⟨a, xs, f, b, top, t, rfl, _⟩ := h
    rfl
  · obtain ⟨a, xs, f, b, top, t, rfl, hS, hp, hN, hn, hb1, pt, q⟩ := h
    have hfb := pt.le
    have hsz := pt.size
    have hbx := pt.hi
    refine ⟨_, (pss_cons (ps_if (pt_cmpR op_eq (pv 1) (pv 2) (nomark _)) (pss_one (ps_ret pe_int)) pss_nil)
      (pss_cons (ps_set (i := 4) sc_many_in_part.nd rfl (by first | exact Or.inl rfl | exact Or.inr rfl) (pe_def D_head_under (hr.mono (by omega)) (pa_cons (pv 0) (pa_cons (pv 1) (pa_cons (pv 2) (pa_cons (pv 3) pa_nil))))))
      (pss_cons (ps_set (i := 5) sc_many_in_part.nd rfl (by first | exact Or.inl rfl | exact Or.inr rfl) (pe_def D_many_in_part (hr.mono (by omega)) (pa_cons (pv 0) (pa_cons (pv 1) (pa_cons (pv 4) (pa_cons (pv 4) pa_nil))))))
      (pss_cons (ps_set (i := 6) sc_many_in_part.nd rfl (by first | exact Or.inl rfl | exact Or.inr rfl) (pe_def D_many_in_part (hr.mono (by omega)) (pa_cons (pv 0) (pa_cons (pe_op op_add (pv 4) pe_int) (pa_cons (pv 2) (pa_cons (pv 4) pa_nil))))))
      (pss_one (ps_ret (pe_op op_mulM (pe_op op_mulM (pe_def D_ways_to_take (hr.mono (by omega)) (pa_cons (pe_op op_sub (pe_op op_sub (pv 2) (pv 1)) pe_int) (pa_cons (pe_op op_sub (pv 4) (pv 1)) pa_nil))) (pv 5)) (pv 6)))))))), ?_⟩
    refine ⟨_, rfl, _, rfl, rfl, _, rfl, ite2 (fun c => ?_) (fun c => ?_)⟩
    · have e : b - f = 0 := by
        have := V.int.inj (of_decide_eq_true c)
        omega
      cases t with
      | nil => exact q H (Same.refl H)
      | node x y =>
        have : x.size + y.size + 1 = b - f := hsz
        omega
    · cases t with
      | nil =>
        have : (0 : Nat) = b - f := hsz
        exact absurd (decide_eq_true (show V.int (f : Int) = V.int (b : Int) by rw [show f = b by omega])) c
      | node x y =>
        have hs : x.size + y.size + 1 = b - f := hsz
        obtain ⟨hF, px, py⟩ := pt.node
        obtain ⟨i, hi⟩ : ∃ i, i = f + x.size := ⟨_, rfl⟩
        rw [← hi] at hF px py
        have h1 := hF.lo
        have h2 := hF.hi
        refine ⟨_, rfl, _, rfl, _, rfl, _, rfl, a, xs, f, b, i, _, rfl, hS, hp, oV_plain top, hbx, hF, fun H1 s1 => ?_⟩
        try dsimp only [gName, List.set]
        refine ⟨_, rfl, _, rfl, _, rfl, _, rfl, a, xs, f, i, some i, x, rfl, s1.seq hS, hp, by omega, by omega, by omega, px, fun H4 s4 => ?_⟩
        try dsimp only [gName, List.set]
        have s14 := s1.trans s4
        refine ⟨_, rfl, _, rfl, _, _, rfl, rfl, _, rfl, _, rfl, a, xs, i + 1, b, some i, y, rfl, s14.seq hS, hp, by omega, by omega, by omega, py, fun H5 s5 => ?_⟩
        try dsimp only [gName, List.set]
        have s15 := s14.trans s5
        have e1 : (b : Int) - (f : Int) - 1 = ((x.size + y.size : Nat) : Int) := by omega
        have e2 : (i : Int) - (f : Int) = ((x.size : Nat) : Int) := by omega
        have c1 := Cart.choose_small (n := x.size + y.size) (k := x.size) (by omega)
        have c2 := Cart.many_small (t := x) (by omega)
        have c3 := Cart.many_small (t := y) (by omega)
        refine ⟨_, rfl, _, rfl, _, _, rfl, rfl, _, _, rfl, rfl, _, rfl, _, rfl, _, _, rfl, rfl, x.size + y.size, x.size, ?_, by omega, by omega, _, rfl, _, _, rfl, rfl, ⟨by omega, by omega⟩, _, rfl, _, _, rfl, rfl, ⟨?_, by omega⟩, ?_⟩
        · try dsimp only
          rw [e1, e2]
          rfl
        · rw [← Int.natCast_mul, Int.natAbs_natCast]
          have : Cart.choose (x.size + y.size) x.size * Cart.many x ≤ 2 ^ 40 * 2 ^ 160 := Nat.mul_le_mul c1 (Nat.le_of_lt c2)
          have e : (2 : Nat) ^ 40 * 2 ^ 160 < 2 ^ 250 := by decide
          omega
        · have q' := q _ s15
          have er : ((Cart.many (.node x y) : Nat) : Int) = ((Cart.choose (x.size + y.size) x.size : Nat) : Int) * ((Cart.many x : Nat) : Int) * ((Cart.many y : Nat) : Int) := by
            rw [← Int.natCast_mul, ← Int.natCast_mul, Nat.mul_assoc]
            rfl
          rw [er] at q'
          exact q'
def sp_many_orders (K : PySem.W.Frag) (C : Addr) : Sp := fun vs H Q _ => ∃ (a : Addr) (t : Cart.BT), vs = [.ref a] ∧ H a = some (.lst (bl t)) ∧ 0 < t.size ∧ t.size ≤ 40 ∧ ∀ H', Same H H' → Q (.int (Cart.many t : Nat)) H'
theorem d_many_orders {f C : Addr} {fd : FuncData} (F : Fun K "many_orders" "many_orders" s_many_orders f fd) (T : Txt K mg C) (D_check_tree : Def P w K mg base 44 "check_tree" ["some"] (sp_check_tree K C)) (D_many_in_part : Def P w K mg base 42 "many_in_part" ["tree", "first", "behind", "over"] (sp_many_in_part K C)) : FnOk P w K mg base CX0 45 f fd ["tree"] (sp_many_orders K C) := by
  refine F.ok sc_many_orders (fun vs H Q E h => ?_) (fun cdv A outer s H vs Q E hr h => ?_)
  · obtain ⟨a, t, rfl, _⟩ := h
    rfl
  · obtain ⟨a, t, rfl, ha, h1, h2, q⟩ := h
    have hbl := bl_len t
    refine ⟨_, (pss_cons (ps_expr (pe_def D_check_tree (hr.mono (by decide)) (pa_cons (pv 0) pa_nil)))
      (pss_one (ps_ret (pe_def D_many_in_part (hr.mono (by decide)) (pa_cons (pv 0) (pa_cons pe_int (pa_cons (pe_callB call_len_seq rfl T.z_len PySem.boot_len (pa_cons (pv 0) pa_nil)) (pa_cons pe_non pa_nil)))))))), ?_⟩
    refine ⟨_, rfl, a, t, rfl, ha, h1, h2, fun H1 s1 => ?_⟩
    have ha1 := s1 _ _ ha
    refine ⟨_, rfl, _, rfl, a, _, rfl, .inl (SqL.of ha1), a, bl t, 0, (bl t).length, none, t, rfl, SqL.of ha1, bl_plain t, by omega, by omega, by omega, ?_, fun H3 s3 => q _ (s1.trans s3)⟩
    rw [hbl]
    exact .whole
theorem map_neg (ns : List Int) : (((ns.map V.int).filter fun _ => true).map fun x => match x with | .int z => V.bl (decide (z < 0)) | _ => V.non) = (ns.map fun z => decide (z < 0)).map V.bl := by
  rw [List.filter_eq_self.mpr (fun _ _ => rfl), List.map_map, List.map_map]
  rfl
theorem any_neg {ns : List Int} (h : ∀ x ∈ ns, 0 ≤ x) : (ns.map fun z => decide (z < 0)).any id = false := by
  rw [Bool.eq_false_iff]
  intro c
  obtain ⟨b, hb, e⟩ := List.any_eq_true.mp c
  obtain ⟨z, hz, rfl⟩ := List.mem_map.mp hb
  have := of_decide_eq_true e
  have := h z hz
  omega
def sp_towers_of (K : PySem.W.Frag) (C : Addr) : Sp := fun vs H Q _ => ∃ (p d : Addr) (ns : List Int), vs = [.ref p] ∧ RowAt C H p d ns ∧ (∀ x ∈ ns, 0 ≤ x) ∧ ∀ (l : Addr) (H' : Hp), Same H H' → H l = none → H' l = some (.lst (ns.map V.int)) → Q (.ref l) H'
theorem d_towers_of {f C : Addr} {fd : FuncData} (F : Fun K "towers_of" "towers_of" s_towers_of f fd) (T : Txt K mg C) (D_Row_numbers : DefM P w K mg base 1 C "numbers" ["self"] (sp_Row_numbers K C)) : FnOk P w K mg base CX0 2 f fd ["row"] (sp_towers_of K C) := by
  refine F.ok sc_towers_of (fun vs H Q E h => ?_) (fun cdv A outer s H vs Q E hr h => ?_)
  · obtain ⟨p, d, ns, rfl, _⟩ := h
    rfl
  · obtain ⟨p, d, ns, rfl, R, hnn, q⟩ := h
    obtain ⟨dx, o1⟩ := R.ob
    have hs := R.sm
    refine ⟨_, (pss_cons (ps_set (i := 1) sc_towers_of.nd rfl (by first | exact Or.inl rfl | exact Or.inr rfl) (pe_defM0 D_Row_numbers T.cl (hr.mono (by decide)) (pv 0)))
      (pss_cons (ps_if (pt_val (pe_callB (call_anyL rfl) rfl T.z_any PyProof.Rows.boot_any (pa_cons (pe_comp [] []  (pi_list (pv 1)) (fun _ _ _ _ => pts_nil) (fun _ _ _ _ => (pe_cmpR op_lt (pv 0) pe_int (nomark _)))) pa_nil))) pss_never pss_nil)
      (pss_one (ps_ret (pv 1))))), ?_⟩
    refine ⟨_, rfl, p, dx, _, rfl, o1, flds_no _ (by decide +kernel), p, d, ns, rfl, R, fun l hl => ?_⟩
    have s1 := same_new hl (.lst (ns.map V.int))
    dsimp only [gName, List.set]
    refine ⟨_, rfl, l, rfl, ⟨_, SqL.of upd_same⟩, ?_⟩
    refine comp_list (fun _ => true) (fun x => match x with | .int z => V.bl (decide (z < 0)) | _ => V.non) (by rw [List.length_map]; omega) (SqL.of upd_same) (fun x H3 Q' hx s3 q' => q') (fun x H3 Q' hx _ s3 q' => ?_) fun D H3 s3 hD e3 => ?_
    · obtain ⟨z, _, rfl⟩ := List.mem_map.mp hx
      exact ⟨_, rfl, _, _, rfl, rfl, q' _ (Same.refl _)⟩
    · rw [map_neg] at e3
      refine ⟨D, _, rfl, SqL.of e3, _, rfl, ?_⟩
      rw [any_neg hnn]
      exact iteF ⟨_, rfl, q l H3 (s1.trans s3) hl (s3 _ _ upd_same)⟩
abbrev Xk (K : PySem.W.Frag) (x : Str) : Value := .ref (adr K x)
def spR_check_size (K : PySem.W.Frag) (C : Addr) : Sp := fun vs H Q E => ∃ n : Int, vs = [.int n] ∧ 40 < n ∧ E (Xk K "NoRow") none H
theorem dR_check_size {f C : Addr} {fd : FuncData} (F : Fun K "check_size" "check_size" s_check_size f fd) (T : Txt K mg C)  : FnOk P w K mg base (CXE P w) 1 f fd ["size"] (spR_check_size K C) := by
  refine F.okX sc_check_size (fun vs H Q E h => ?_) (fun cdv A outer s H vs Q E hr h => ?_)
  · obtain ⟨n, rfl, _⟩ := h
    rfl
  · obtain ⟨n, rfl, h1, q⟩ := h
    refine ⟨_, (pss_one (ps_if (pt_cmpR op_gt (pv 0) (pe_glob (v := .int 40) rfl T.g_MOST_NUMBERS.choose_spec ⟨_, rfl⟩) (nomark _)) (pss_one (ps_raise (E := E) rfl rfl T.e_NoRow.mg T.e_NoRow.cls (pa_cons (pe_fstr (n := 40) (pe_glob (v := .int 40) rfl T.g_MOST_NUMBERS.choose_spec ⟨_, rfl⟩) (by decide) (by decide +kernel) (by decide +kernel) (by decide +kernel)) pa_nil) raise_body)) pss_nil)), ?_⟩
    refine ⟨_, rfl, _, _, rfl, rfl, _, rfl, ?_⟩
    exact ite2 (fun _ => ⟨(by show 1 ≤ sizeLine; decide), q⟩) (fun c => absurd (decide_eq_true h1) c)
def spR_check_place (K : PySem.W.Frag) (C : Addr) : Sp := fun vs H Q E => ∃ n k : Int, vs = [.int n, .int k] ∧ ¬ (0 ≤ k ∧ k < n) ∧ E (Xk K "NoPlace") none H
theorem dR_check_place {f C : Addr} {fd : FuncData} (F : Fun K "check_place" "check_place" s_check_place f fd) (T : Txt K mg C)  : FnOk P w K mg base (CXE P w) 1 f fd ["size", "place"] (spR_check_place K C) := by
  refine F.okX sc_check_place (fun vs H Q E h => ?_) (fun cdv A outer s H vs Q E hr h => ?_)
  · obtain ⟨n, k, rfl, _⟩ := h
    rfl
  · obtain ⟨n, k, rfl, h1, q⟩ := h
    refine ⟨_, (pss_one (ps_if (pt_not (pt_chain op_le op_lt pe_int (pv 1) (pv 0))) (pss_one (ps_raise (E := E) rfl rfl T.e_NoPlace.mg T.e_NoPlace.cls (pa_cons pe_str pa_nil) raise_body)) pss_nil)), ?_⟩
    refine ⟨_, rfl, _, _, rfl, rfl, _, rfl, ite2 (fun c => ⟨_, rfl, _, _, rfl, rfl, _, rfl, ?_⟩) (fun c => ⟨_, rfl, iteT ⟨(by show 1 ≤ sizeLine; decide), q⟩⟩)⟩
    rw [decide_eq_false (fun z => h1 ⟨of_decide_eq_true c, z⟩)]
    exact iteT ⟨(by show 1 ≤ sizeLine; decide), q⟩
def spR_check_gap (K : PySem.W.Frag) (C : Addr) : Sp := fun vs H Q E => ∃ n k : Int, vs = [.int n, .int k] ∧ ¬ (0 ≤ k ∧ k ≤ n) ∧ E (Xk K "NoPlace") none H
theorem dR_check_gap {f C : Addr} {fd : FuncData} (F : Fun K "check_gap" "check_gap" s_check_gap f fd) (T : Txt K mg C)  : FnOk P w K mg base (CXE P w) 1 f fd ["size", "place"] (spR_check_gap K C) := by
  refine F.okX sc_check_gap (fun vs H Q E h => ?_) (fun cdv A outer s H vs Q E hr h => ?_)
  · obtain ⟨n, k, rfl, _⟩ := h
    rfl
  · obtain ⟨n, k, rfl, h1, q⟩ := h
    refine ⟨_, (pss_one (ps_if (pt_not (pt_chain op_le op_le pe_int (pv 1) (pv 0))) (pss_one (ps_raise (E := E) rfl rfl T.e_NoPlace.mg T.e_NoPlace.cls (pa_cons pe_str pa_nil) raise_body)) pss_nil)), ?_⟩
    refine ⟨_, rfl, _, _, rfl, rfl, _, rfl, ite2 (fun c => ⟨_, rfl, _, _, rfl, rfl, _, rfl, ?_⟩) (fun c => ⟨_, rfl, iteT ⟨(by show 1 ≤ sizeLine; decide), q⟩⟩)⟩
    rw [decide_eq_false (fun z => h1 ⟨of_decide_eq_true c, z⟩)]
    exact iteT ⟨(by show 1 ≤ sizeLine; decide), q⟩
def spR_check_stretch (K : PySem.W.Frag) (C : Addr) : Sp := fun vs H Q E => ∃ n k b : Int, vs = [.int n, .int k, .int b] ∧ ¬ (0 ≤ k ∧ k < b ∧ b ≤ n) ∧ E (Xk K "NoStretch") none H
theorem dR_check_stretch {f C : Addr} {fd : FuncData} (F : Fun K "check_stretch" "check_stretch" s_check_stretch f fd) (T : Txt K mg C)  : FnOk P w K mg base (CXE P w) 1 f fd ["size", "first", "behind"] (spR_check_stretch K C) := by
  refine F.okX sc_check_stretch (fun vs H Q E h => ?_) (fun cdv A outer s H vs Q E hr h => ?_)
  · obtain ⟨n, k, b, rfl, _⟩ := h
    rfl
  · obtain ⟨n, k, b, rfl, h1, q⟩ := h
    refine ⟨_, (pss_one (ps_if (pt_not (pt_chain3 op_le op_lt op_le pe_int (pv 1) (pv 2) (pv 0))) (pss_one (ps_raise (E := E) rfl rfl T.e_NoStretch.mg T.e_NoStretch.cls (pa_cons pe_str pa_nil) raise_body)) pss_nil)), ?_⟩
    refine ⟨_, rfl, _, _, rfl, rfl, _, rfl, ite2 (fun c => ⟨_, rfl, _, _, rfl, rfl, _, rfl, ite2 (fun c2 => ⟨_, rfl, _, _, rfl, rfl, _, rfl, ?_⟩) (fun c2 => ⟨_, rfl, iteT ⟨(by show 1 ≤ sizeLine; decide), q⟩⟩)⟩) (fun c => ⟨_, rfl, iteT ⟨(by show 1 ≤ sizeLine; decide), q⟩⟩)⟩
    rw [decide_eq_false (fun z => h1 ⟨of_decide_eq_true c, of_decide_eq_true c2, z⟩)]
    exact iteT ⟨(by show 1 ≤ sizeLine; decide), q⟩
def spR_Row_init (K : PySem.W.Frag) (C : Addr) : Sp := fun vs H Q E => ∃ (p a : Addr) (xs : List V), vs = [.ref p, .ref a] ∧ SqL K H a xs ∧ 40 < xs.length ∧ E (Xk K "NoRow") none H
theorem dR_Row_init {f C : Addr} {fd : FuncData} (F : Fun K "__init__" "Row.__init__" s_Row_init f fd) (T : Txt K mg C) (DR_check_size : DefX P w K mg base 1 "check_size" ["size"] (spR_check_size K C)) : FnOk P w K mg base (CXE P w) 2 f fd ["self", "numbers"] (spR_Row_init K C) := by
  refine F.okX sc_Row_init (fun vs H Q E h => ?_) (fun cdv A outer s H vs Q E hr h => ?_)
  · obtain ⟨p, a, xs, rfl, _⟩ := h
    rfl
  · obtain ⟨p, a, xs, rfl, hS, hl, q⟩ := h
    refine ⟨_, (pss_dead (ps_expr (pe_defX DR_check_size pass_body (hr.mono (by decide)) (pa_cons (pe_callB call_len_seq rfl T.z_len PySem.boot_len (pa_cons (pv 1) pa_nil)) pa_nil)))), ?_⟩
    exact ⟨_, rfl, a, _, rfl, .inl hS, _, rfl, (by omega), q⟩
def spR_Row_set_at (K : PySem.W.Frag) (C : Addr) : Sp := fun vs H Q E => ∃ (p d : Addr) (ns : List Int) (k z : Int), vs = [.ref p, .int k, .int z] ∧ RowAt C H p d ns ∧ ¬ (0 ≤ k ∧ k < (ns.length : Int)) ∧ E (Xk K "NoPlace") none H
theorem dR_Row_set_at {f C : Addr} {fd : FuncData} (F : Fun K "set_at" "Row.set_at" s_Row_set_at f fd) (T : Txt K mg C) (DR_check_place : DefX P w K mg base 1 "check_place" ["size", "place"] (spR_check_place K C)) : FnOk P w K mg base (CXE P w) 2 f fd ["self", "place", "number"] (spR_Row_set_at K C) := by
  refine F.okX sc_Row_set_at (fun vs H Q E h => ?_) (fun cdv A outer s H vs Q E hr h => ?_)
  · obtain ⟨p, d, ns, k, z, rfl, _⟩ := h
    rfl
  · obtain ⟨p, d, ns, k, z, rfl, R, h0, q⟩ := h
    obtain ⟨dx, h1⟩ := R.ob
    refine ⟨_, (pss_dead (ps_expr (pe_defX DR_check_place pass_body (hr.mono (by decide)) (pa_cons (pe_callB call_len_seq rfl T.z_len PySem.boot_len (pa_cons (pe_fld (pv 0) rfl) pa_nil)) (pa_cons (pv 1) pa_nil))))), ?_⟩
    exact ⟨_, rfl, p, C, dx, _, _, rfl, h1, T.cl, T.n_held, flds_held _, d, _, rfl, .inl (SqL.of R.hd), _, rfl, _, _, rfl, (by rw [List.length_map]; exact h0), q⟩
def spR_Row_take_out (K : PySem.W.Frag) (C : Addr) : Sp := fun vs H Q E => ∃ (p d : Addr) (ns : List Int) (k : Int), vs = [.ref p, .int k] ∧ RowAt C H p d ns ∧ ¬ (0 ≤ k ∧ k < (ns.length : Int)) ∧ E (Xk K "NoPlace") none H
theorem dR_Row_take_out {f C : Addr} {fd : FuncData} (F : Fun K "take_out" "Row.take_out" s_Row_take_out f fd) (T : Txt K mg C) (DR_check_place : DefX P w K mg base 1 "check_place" ["size", "place"] (spR_check_place K C)) : FnOk P w K mg base (CXE P w) 2 f fd ["self", "place"] (spR_Row_take_out K C) := by
  refine F.okX sc_Row_take_out (fun vs H Q E h => ?_) (fun cdv A outer s H vs Q E hr h => ?_)
  · obtain ⟨p, d, ns, k, rfl, _⟩ := h
    rfl
  · obtain ⟨p, d, ns, k, rfl, R, h0, q⟩ := h
    obtain ⟨dx, h1⟩ := R.ob
    refine ⟨_, (pss_dead (ps_expr (pe_defX DR_check_place pass_body (hr.mono (by decide)) (pa_cons (pe_callB call_len_seq rfl T.z_len PySem.boot_len (pa_cons (pe_fld (pv 0) rfl) pa_nil)) (pa_cons (pv 1) pa_nil))))), ?_⟩
    exact ⟨_, rfl, p, C, dx, _, _, rfl, h1, T.cl, T.n_held, flds_held _, d, _, rfl, .inl (SqL.of R.hd), _, rfl, _, _, rfl, (by rw [List.length_map]; exact h0), q⟩
def spR_Row_put_in (K : PySem.W.Frag) (C : Addr) : Sp := fun vs H Q E => ∃ (p d : Addr) (ns : List Int) (k z : Int), vs = [.ref p, .int k, .int z] ∧ RowAt C H p d ns ∧ (ns.length = 40 ∧ E (Xk K "NoRow") none H ∨ ns.length < 40 ∧ ¬ (0 ≤ k ∧ k ≤ (ns.length : Int)) ∧ E (Xk K "NoPlace") none H)
theorem dR_Row_put_in {f C : Addr} {fd : FuncData} (F : Fun K "put_in" "Row.put_in" s_Row_put_in f fd) (T : Txt K mg C) (D_check_size : Def P w K mg base 1 "check_size" ["size"] (sp_check_size K C)) (DR_check_size : DefX P w K mg base 1 "check_size" ["size"] (spR_check_size K C)) (DR_check_gap : DefX P w K mg base 1 "check_gap" ["size", "place"] (spR_check_gap K C)) : FnOk P w K mg base (CXE P w) 2 f fd ["self", "place", "number"] (spR_Row_put_in K C) := by
  refine F.okX sc_Row_put_in (fun vs H Q E h => ?_) (fun cdv A outer s H vs Q E hr h => ?_)
  · obtain ⟨p, d, ns, k, z, rfl, _⟩ := h
    rfl
  · obtain ⟨p, d, ns, k, z, rfl, R, h0⟩ := h
    obtain ⟨dx, h1⟩ := R.ob
    rcases h0 with ⟨h0, q⟩ | ⟨h0, h2, q⟩
    · refine ⟨_, (pss_dead (ps_expr (pe_defX DR_check_size pass_body (hr.mono (by decide)) (pa_cons (pe_op op_add (pe_callB call_len_seq rfl T.z_len PySem.boot_len (pa_cons (pe_fld (pv 0) rfl) pa_nil)) pe_int) pa_nil)))), ?_⟩
      exact ⟨_, rfl, p, C, dx, _, _, rfl, h1, T.cl, T.n_held, flds_held _, d, _, rfl, .inl (SqL.of R.hd), _, _, rfl, rfl, _, rfl, (by rw [List.length_map]; omega), q⟩
    · refine ⟨_, (pss_cons (ps_expr (pe_def D_check_size (hr.mono (by decide)) (pa_cons (pe_op op_add (pe_callB call_len_seq rfl T.z_len PySem.boot_len (pa_cons (pe_fld (pv 0) rfl) pa_nil)) pe_int) pa_nil)))
      (pss_dead (ps_expr (pe_defX DR_check_gap pass_body (hr.mono (by decide)) (pa_cons (pe_callB call_len_seq rfl T.z_len PySem.boot_len (pa_cons (pe_fld (pv 0) rfl) pa_nil)) (pa_cons (pv 1) pa_nil)))))), ?_⟩
      refine ⟨_, rfl, p, C, dx, _, _, rfl, h1, T.cl, T.n_held, flds_held _, d, _, rfl, .inl (SqL.of R.hd), _, _, rfl, rfl, _, rfl, (by rw [List.length_map]; omega), ?_⟩
      exact ⟨_, rfl, p, C, dx, _, _, rfl, h1, T.cl, T.n_held, flds_held _, d, _, rfl, .inl (SqL.of R.hd), _, rfl, _, _, rfl, (by rw [List.length_map]; exact h2), q⟩
def spR_Row_add_to (K : PySem.W.Frag) (C : Addr) : Sp := fun vs H Q E => ∃ (p d : Addr) (ns : List Int) (k b z : Int), vs = [.ref p, .int k, .int b, .int z] ∧ RowAt C H p d ns ∧ ¬ (0 ≤ k ∧ k < b ∧ b ≤ (ns.length : Int)) ∧ E (Xk K "NoStretch") none H
theorem dR_Row_add_to {f C : Addr} {fd : FuncData} (F : Fun K "add_to" "Row.add_to" s_Row_add_to f fd) (T : Txt K mg C) (DR_check_stretch : DefX P w K mg base 1 "check_stretch" ["size", "first", "behind"] (spR_check_stretch K C)) : FnOk P w K mg base (CXE P w) 2 f fd ["self", "first", "behind", "number"] (spR_Row_add_to K C) := by
  refine F.okX sc_Row_add_to (fun vs H Q E h => ?_) (fun cdv A outer s H vs Q E hr h => ?_)
  · obtain ⟨p, d, ns, k, b, z, rfl, _⟩ := h
    rfl
  · obtain ⟨p, d, ns, k, b, z, rfl, R, h0, q⟩ := h
    obtain ⟨dx, h1⟩ := R.ob
    refine ⟨_, (pss_dead (ps_expr (pe_defX DR_check_stretch pass_body (hr.mono (by decide)) (pa_cons (pe_callB call_len_seq rfl T.z_len PySem.boot_len (pa_cons (pe_fld (pv 0) rfl) pa_nil)) (pa_cons (pv 1) (pa_cons (pv 2) pa_nil)))))), ?_⟩
    exact ⟨_, rfl, p, C, dx, _, _, rfl, h1, T.cl, T.n_held, flds_held _, d, _, rfl, .inl (SqL.of R.hd), _, rfl, _, rfl, _, _, _, rfl, (by rw [List.length_map]; exact h0), q⟩
def spR_Row_cut (K : PySem.W.Frag) (C : Addr) : Sp := fun vs H Q E => ∃ (p d : Addr) (ns : List Int) (k : Int), vs = [.ref p, .int k] ∧ RowAt C H p d ns ∧ ¬ (0 ≤ k ∧ k ≤ (ns.length : Int)) ∧ E (Xk K "NoPlace") none H
theorem dR_Row_cut {f C : Addr} {fd : FuncData} (F : Fun K "cut" "Row.cut" s_Row_cut f fd) (T : Txt K mg C) (DR_check_gap : DefX P w K mg base 1 "check_gap" ["size", "place"] (spR_check_gap K C)) : FnOk P w K mg base (CXE P w) 2 f fd ["self", "place"] (spR_Row_cut K C) := by
  refine F.okX sc_Row_cut (fun vs H Q E h => ?_) (fun cdv A outer s H vs Q E hr h => ?_)
  · obtain ⟨p, d, ns, k, rfl, _⟩ := h
    rfl
  · obtain ⟨p, d, ns, k, rfl, R, h0, q⟩ := h
    obtain ⟨dx, h1⟩ := R.ob
    refine ⟨_, (pss_dead (ps_expr (pe_defX DR_check_gap pass_body (hr.mono (by decide)) (pa_cons (pe_callB call_len_seq rfl T.z_len PySem.boot_len (pa_cons (pe_fld (pv 0) rfl) pa_nil)) (pa_cons (pv 1) pa_nil))))), ?_⟩
    exact ⟨_, rfl, p, C, dx, _, _, rfl, h1, T.cl, T.n_held, flds_held _, d, _, rfl, .inl (SqL.of R.hd), _, rfl, _, _, rfl, (by rw [List.length_map]; exact h0), q⟩
theorem same_made {C x dx : Addr} {H : Hp} (hx : H x = none) (hdx : H dx = none) : Same H (upd (upd H dx (.own x)) x (.ins C dx [])) := fun b o e => by
  rw [upd_ne (ne_of_none e hx), upd_ne (ne_of_none e hdx)]
  exact e
def spR_joined (K : PySem.W.Frag) (C : Addr) : Sp := fun vs H Q E => ∃ (p d p' d' : Addr) (ns ms : List Int), vs = [.ref p, .ref p'] ∧ RowAt C H p d ns ∧ RowAt C H p' d' ms ∧ 40 < ns.length + ms.length ∧ ∀ H', Same H H' → E (Xk K "NoRow") none H'
theorem dR_joined {f C : Addr} {fd : FuncData} (F : Fun K "joined" "joined" s_joined f fd) (T : Txt K mg C) (D_Row_numbers : DefM P w K mg base 1 C "numbers" ["self"] (sp_Row_numbers K C)) (DR_Row : DefCX P w K mg base 2 C "Row" ["self", "numbers"] (spR_Row_init K C)) : FnOk P w K mg base (CXE P w) 4 f fd ["one", "other"] (spR_joined K C) := by
  refine F.okX sc_joined (fun vs H Q E h => ?_) (fun cdv A outer s H vs Q E hr h => ?_)
  · obtain ⟨p, d, p', d', ns, ms, rfl, _⟩ := h
    rfl
  · obtain ⟨p, d, p', d', ns, ms, rfl, R, R', h0, q⟩ := h
    obtain ⟨dx, h1⟩ := R.ob
    have hs := R.sm
    have hs' := R'.sm
    refine ⟨_, (pss_one (ps_ret (pe_defCX DR_Row pass_body (hr.mono (by decide)) (pa_cons (pe_op op_cat (pe_defM0 D_Row_numbers T.cl (hr.mono (by decide)) (pv 0)) (pe_defM0 D_Row_numbers T.cl (hr.mono (by decide)) (pv 1))) pa_nil)))), ?_⟩
    refine ⟨_, rfl, p, dx, _, rfl, h1, flds_no _ (by decide +kernel), p, d, ns, rfl, R, fun a ha => ?_⟩
    have s1 := same_new ha (.lst (ns.map V.int))
    have R1 := R'.same s1
    obtain ⟨dx', h1'⟩ := R1.ob
    refine ⟨_, rfl, p', dx', _, rfl, h1', flds_no _ (by decide +kernel), p', d', ms, rfl, R1, fun b hb => ?_⟩
    have s2 := same_new hb (.lst (ms.map V.int))
    refine ⟨a, b, _, _, rfl, rfl, s2 _ _ upd_same, upd_same, small (by rw [List.length_map, List.length_map]; omega), fun c hc => ?_⟩
    have s3 := same_new hc (.lst (ns.map V.int ++ ms.map V.int))
    exact fun x dx hx hdx _ => ⟨x, c, _, rfl, (same_made hx hdx).seq (SqL.of upd_same), (by rw [List.length_append, List.length_map, List.length_map]; exact h0), q _ (s1.trans (s2.trans (s3.trans (same_made hx hdx))))⟩
def spR_least (K : PySem.W.Frag) (C : Addr) : Sp := fun vs H Q E => ∃ (p d : Addr) (ns : List Int) (k b : Int), vs = [.ref p, .int k, .int b] ∧ RowAt C H p d ns ∧ ¬ (0 ≤ k ∧ k < b ∧ b ≤ (ns.length : Int)) ∧ ∀ H', Same H H' → E (Xk K "NoStretch") none H'
theorem dR_least {f C : Addr} {fd : FuncData} (F : Fun K "least" "least" s_least f fd) (T : Txt K mg C) (D_Row_numbers : DefM P w K mg base 1 C "numbers" ["self"] (sp_Row_numbers K C)) (DR_check_stretch : DefX P w K mg base 1 "check_stretch" ["size", "first", "behind"] (spR_check_stretch K C)) : FnOk P w K mg base (CXE P w) 2 f fd ["row", "first", "behind"] (spR_least K C) := by
  refine F.okX sc_least (fun vs H Q E h => ?_) (fun cdv A outer s H vs Q E hr h => ?_)
  · obtain ⟨p, d, ns, k, b, rfl, _⟩ := h
    rfl
  · obtain ⟨p, d, ns, k, b, rfl, R, h0, q⟩ := h
    obtain ⟨dx, o1⟩ := R.ob
    refine ⟨_, (pss_cons (ps_set (i := 3) sc_least.nd rfl (by first | exact Or.inl rfl | exact Or.inr rfl) (pe_defM0 D_Row_numbers T.cl (hr.mono (by decide)) (pv 0)))
      (pss_dead (ps_expr (pe_defX DR_check_stretch pass_body (hr.mono (by decide)) (pa_cons (pe_callB call_len_seq rfl T.z_len PySem.boot_len (pa_cons (pv 3) pa_nil)) (pa_cons (pv 1) (pa_cons (pv 2) pa_nil))))))), ?_⟩
    refine ⟨_, rfl, p, dx, _, rfl, o1, flds_no _ (by decide +kernel), p, d, ns, rfl, R, fun a ha => ?_⟩
    have s1 := same_new ha (.lst (ns.map V.int))
    exact ⟨_, rfl, a, _, rfl, .inl (SqL.of upd_same), _, rfl, _, rfl, _, _, _, rfl, (by rw [List.length_map]; exact h0), q _ s1⟩
def spR_check_tree (K : PySem.W.Frag) (C : Addr) : Sp := fun vs H Q E => ∃ (a : Addr) (xs : List V), vs = [.ref a] ∧ H a = some (.lst xs) ∧ (∀ x ∈ xs, x = .non ∨ ∃ z, x = .int z) ∧ xs.length ≤ 60 ∧ ¬ IsT xs ∧ ∀ H', Same H H' → E (Xk K "NoTree") none H'
theorem dR_check_tree {f C : Addr} {fd : FuncData} (F : Fun K "check_tree" "check_tree" s_check_tree f fd) (T : Txt K mg C) (D_is_tree : Def P w K mg base 43 "is_tree" ["some"] (sp_is_tree K C)) : FnOk P w K mg base (CXE P w) 44 f fd ["some"] (spR_check_tree K C) := by
  refine F.okX sc_check_tree (fun vs H Q E h => ?_) (fun cdv A outer s H vs Q E hr h => ?_)
  · obtain ⟨a, xs, rfl, _⟩ := h
    rfl
  · obtain ⟨a, xs, rfl, ha, h1, h2, h3, q⟩ := h
    refine ⟨_, (pss_one (ps_if (pt_not (pt_val (pe_def D_is_tree (hr.mono (by decide)) (pa_cons (pv 0) pa_nil)))) (pss_one (ps_raise (E := E) rfl rfl T.e_NoTree.mg T.e_NoTree.cls (pa_cons pe_str pa_nil) raise_body)) pss_nil)), ?_⟩
    refine ⟨_, rfl, a, _, rfl, ha, h1, h2, fun H1 s1 => ⟨_, rfl, ?_⟩⟩
    rw [isT_false h3]
    exact iteT ⟨(by show 1 ≤ sizeLine; decide), q _ s1⟩
def spR_check_places (K : PySem.W.Frag) (C : Addr) : Sp := fun vs H Q E => ∃ n : Int, vs = [.int n] ∧ ¬ (1 ≤ n ∧ n ≤ 40) ∧ E (Xk K "NoNumber") none H
theorem dR_check_places {f C : Addr} {fd : FuncData} (F : Fun K "check_places" "check_places" s_check_places f fd) (T : Txt K mg C)  : FnOk P w K mg base (CXE P w) 1 f fd ["size"] (spR_check_places K C) := by
  refine F.okX sc_check_places (fun vs H Q E h => ?_) (fun cdv A outer s H vs Q E hr h => ?_)
  · obtain ⟨n, rfl, _⟩ := h
    rfl
  · obtain ⟨n, rfl, h1, q⟩ := h
    refine ⟨_, (pss_one (ps_if (pt_not (pt_chain op_le op_le pe_int (pv 0) (pe_glob (v := .int 40) rfl T.g_MOST_NUMBERS.choose_spec ⟨_, rfl⟩))) (pss_one (ps_raise (E := E) rfl rfl T.e_NoNumber.mg T.e_NoNumber.cls (pa_cons (pe_fstr (n := 40) (pe_glob (v := .int 40) rfl T.g_MOST_NUMBERS.choose_spec ⟨_, rfl⟩) (by decide) (by decide +kernel) (by decide +kernel) (by decide +kernel)) pa_nil) raise_body)) pss_nil)), ?_⟩
    refine ⟨_, rfl, _, _, rfl, rfl, _, rfl, ite2 (fun c => ⟨_, _, rfl, rfl, _, rfl, ?_⟩) (fun c => ⟨_, rfl, iteT ⟨(by show 1 ≤ sizeLine; decide), q⟩⟩)⟩
    rw [decide_eq_false (fun z => h1 ⟨of_decide_eq_true c, z⟩)]
    exact iteT ⟨(by show 1 ≤ sizeLine; decide), q⟩
def spR_check_number (K : PySem.W.Frag) (C : Addr) : Sp := fun vs H Q E => ∃ n k : Int, vs = [.int n, .int k] ∧ ¬ (0 ≤ k ∧ k < n) ∧ E (Xk K "NoNumber") none H
theorem dR_check_number {f C : Addr} {fd : FuncData} (F : Fun K "check_number" "check_number" s_check_number f fd) (T : Txt K mg C)  : FnOk P w K mg base (CXE P w) 1 f fd ["many", "number"] (spR_check_number K C) := by
  refine F.okX sc_check_number (fun vs H Q E h => ?_) (fun cdv A outer s H vs Q E hr h => ?_)
  · obtain ⟨n, k, rfl, _⟩ := h
    rfl
  · obtain ⟨n, k, rfl, h1, q⟩ := h
    refine ⟨_, (pss_one (ps_if (pt_not (pt_chain op_le op_lt pe_int (pv 1) (pv 0))) (pss_one (ps_raise (E := E) rfl rfl T.e_NoNumber.mg T.e_NoNumber.cls (pa_cons pe_str pa_nil) raise_body)) pss_nil)), ?_⟩
    refine ⟨_, rfl, _, _, rfl, rfl, _, rfl, ite2 (fun c => ⟨_, rfl, _, _, rfl, rfl, _, rfl, ?_⟩) (fun c => ⟨_, rfl, iteT ⟨(by show 1 ≤ sizeLine; decide), q⟩⟩)⟩
    rw [decide_eq_false (fun z => h1 ⟨of_decide_eq_true c, z⟩)]
    exact iteT ⟨(by show 1 ≤ sizeLine; decide), q⟩
def spR_many_trees (K : PySem.W.Frag) (C : Addr) : Sp := fun vs H Q E => ∃ n : Int, vs = [.int n] ∧ ¬ (1 ≤ n ∧ n ≤ 40) ∧ E (Xk K "NoNumber") none H
theorem dR_many_trees {f C : Addr} {fd : FuncData} (F : Fun K "many_trees" "many_trees" s_many_trees f fd) (T : Txt K mg C) (DR_check_places : DefX P w K mg base 1 "check_places" ["size"] (spR_check_places K C)) : FnOk P w K mg base (CXE P w) 2 f fd ["size"] (spR_many_trees K C) := by
  refine F.okX sc_many_trees (fun vs H Q E h => ?_) (fun cdv A outer s H vs Q E hr h => ?_)
  · obtain ⟨n, rfl, _⟩ := h
    rfl
  · obtain ⟨n, rfl, h1, q⟩ := h
    refine ⟨_, (pss_dead (ps_expr (pe_defX DR_check_places pass_body (hr.mono (by decide)) (pa_cons (pv 0) pa_nil)))), ?_⟩
    exact ⟨_, rfl, n, rfl, h1, q⟩
def spR_tree_at (K : PySem.W.Frag) (C : Addr) : Sp := fun vs H Q E => ∃ n k : Int, vs = [.int n, .int k] ∧ (1 ≤ n ∧ n ≤ 40 → ¬ (0 ≤ k ∧ k < ((Cart.cat n.toNat : Nat) : Int))) ∧ ∀ H', Same H H' → E (Xk K "NoNumber") none H'
theorem dR_tree_at {f C : Addr} {fd : FuncData} (F : Fun K "tree_at" "tree_at" s_tree_at f fd) (T : Txt K mg C) (D_check_places : Def P w K mg base 1 "check_places" ["size"] (sp_check_places K C)) (D_tree_counts : Def P w K mg base 1 "tree_counts" ["size"] (sp_tree_counts K C)) (DR_check_places : DefX P w K mg base 1 "check_places" ["size"] (spR_check_places K C)) (DR_check_number : DefX P w K mg base 1 "check_number" ["many", "number"] (spR_check_number K C)) : FnOk P w K mg base (CXE P w) 2 f fd ["size", "number"] (spR_tree_at K C) := by
  refine F.okX sc_tree_at (fun vs H Q E h => ?_) (fun cdv A outer s H vs Q E hr h => ?_)
  · obtain ⟨n, k, rfl, _⟩ := h
    rfl
  · obtain ⟨n, k, rfl, h1, q⟩ := h
    by_cases c : 1 ≤ n ∧ n ≤ 40
    · refine ⟨_, (pss_cons (ps_expr (pe_def D_check_places (hr.mono (by decide)) (pa_cons (pv 0) pa_nil)))
      (pss_cons (ps_set (i := 2) sc_tree_at.nd rfl (by first | exact Or.inl rfl | exact Or.inr rfl) (pe_def D_tree_counts (hr.mono (by decide)) (pa_cons (pv 0) pa_nil)))
      (pss_dead (ps_expr (pe_defX DR_check_number pass_body (hr.mono (by decide)) (pa_cons (pe_ix ix_list (pv 2) (pv 0) (fun _ _ => rfl)) (pa_cons (pv 1) pa_nil))))))), ?_⟩
      obtain ⟨m, rfl⟩ : ∃ m : Nat, n = (m : Int) := ⟨n.toNat, by omega⟩
      refine ⟨_, rfl, (m : Int), rfl, c.1, c.2, ?_⟩
      refine ⟨_, rfl, m, rfl, (by omega), fun l H2 s2 hl e2 => ?_⟩
      dsimp only [gName, List.set]
      rw [Int.toNat_natCast] at h1
      exact ⟨_, rfl, _, rfl, l, _, _, _, rfl, rfl, SqL.of e2, cats_at (by omega), _, rfl, _, _, rfl, h1 c, q _ s2⟩
    · refine ⟨_, (pss_dead (ps_expr (pe_defX DR_check_places pass_body (hr.mono (by decide)) (pa_cons (pv 0) pa_nil)))), ?_⟩
      exact ⟨_, rfl, n, rfl, c, q _ (Same.refl _)⟩
abbrev Shp (xs : List V) : Prop := ∀ x ∈ xs, x = .non ∨ ∃ z, x = .int z
def spR_tree_number (K : PySem.W.Frag) (C : Addr) : Sp := fun vs H Q E => ∃ (a : Addr) (xs : List V), vs = [.ref a] ∧ H a = some (.lst xs) ∧ Shp xs ∧ xs.length ≤ 60 ∧ ¬ IsT xs ∧ ∀ H', Same H H' → E (Xk K "NoTree") none H'
theorem dR_tree_number {f C : Addr} {fd : FuncData} (F : Fun K "tree_number" "tree_number" s_tree_number f fd) (T : Txt K mg C) (DR_check_tree : DefX P w K mg base 44 "check_tree" ["some"] (spR_check_tree K C)) : FnOk P w K mg base (CXE P w) 45 f fd ["tree"] (spR_tree_number K C) := by
  refine F.okX sc_tree_number (fun vs H Q E h => ?_) (fun cdv A outer s H vs Q E hr h => ?_)
  · obtain ⟨a, xs, rfl, _⟩ := h
    rfl
  · obtain ⟨a, xs, rfl, ha, h1, h2, h3, q⟩ := h
    refine ⟨_, (pss_dead (ps_expr (pe_defX DR_check_tree pass_body (hr.mono (by decide)) (pa_cons (pv 0) pa_nil)))), ?_⟩
    exact ⟨_, rfl, a, xs, rfl, ha, h1, h2, h3, q⟩
def spR_many_orders (K : PySem.W.Frag) (C : Addr) : Sp := fun vs H Q E => ∃ (a : Addr) (xs : List V), vs = [.ref a] ∧ H a = some (.lst xs) ∧ Shp xs ∧ xs.length ≤ 60 ∧ ¬ IsT xs ∧ ∀ H', Same H H' → E (Xk K "NoTree") none H'
theorem dR_many_orders {f C : Addr} {fd : FuncData} (F : Fun K "many_orders" "many_orders" s_many_orders f fd) (T : Txt K mg C) (DR_check_tree : DefX P w K mg base 44 "check_tree" ["some"] (spR_check_tree K C)) : FnOk P w K mg base (CXE P w) 45 f fd ["tree"] (spR_many_orders K C) := by
  refine F.okX sc_many_orders (fun vs H Q E h => ?_) (fun cdv A outer s H vs Q E hr h => ?_)
  · obtain ⟨a, xs, rfl, _⟩ := h
    rfl
  · obtain ⟨a, xs, rfl, ha, h1, h2, h3, q⟩ := h
    refine ⟨_, (pss_dead (ps_expr (pe_defX DR_check_tree pass_body (hr.mono (by decide)) (pa_cons (pv 0) pa_nil)))), ?_⟩
    exact ⟨_, rfl, a, xs, rfl, ha, h1, h2, h3, q⟩
def spR_order_at (K : PySem.W.Frag) (C : Addr) : Sp := fun vs H Q E => ∃ (a : Addr) (k : Int), vs = [.ref a, .int k] ∧ ((∃ xs : List V, H a = some (.lst xs) ∧ Shp xs ∧ xs.length ≤ 60 ∧ ¬ IsT xs ∧ ∀ H', Same H H' → E (Xk K "NoTree") none H') ∨
  ∃ t : Cart.BT, H a = some (.lst (bl t)) ∧ 0 < t.size ∧ t.size ≤ 40 ∧ ¬ (0 ≤ k ∧ k < ((Cart.many t : Nat) : Int)) ∧ ∀ H', Same H H' → E (Xk K "NoNumber") none H')
theorem dR_order_at {f C : Addr} {fd : FuncData} (F : Fun K "order_at" "order_at" s_order_at f fd) (T : Txt K mg C) (D_many_orders : Def P w K mg base 45 "many_orders" ["tree"] (sp_many_orders K C)) (DR_many_orders : DefX P w K mg base 45 "many_orders" ["tree"] (spR_many_orders K C)) (DR_check_number : DefX P w K mg base 1 "check_number" ["many", "number"] (spR_check_number K C)) : FnOk P w K mg base (CXE P w) 46 f fd ["tree", "number"] (spR_order_at K C) := by
  refine F.okX sc_order_at (fun vs H Q E h => ?_) (fun cdv A outer s H vs Q E hr h => ?_)
  · obtain ⟨a, k, rfl, _⟩ := h
    rfl
  · obtain ⟨a, k, rfl, h0⟩ := h
    rcases h0 with ⟨xs, ha, h1, h2, h3, q⟩ | ⟨t, ha, h1, h2, h3, q⟩
    · refine ⟨_, (pss_dead (ps_expr (pe_defX DR_check_number pass_body (hr.mono (by decide)) (pa_cons (pe_defX DR_many_orders pass_body (hr.mono (by decide)) (pa_cons (pv 0) pa_nil)) (pa_cons (pv 1) pa_nil))))), ?_⟩
      exact ⟨_, rfl, a, xs, rfl, ha, h1, h2, h3, q⟩
    · refine ⟨_, (pss_dead (ps_expr (pe_defX DR_check_number pass_body (hr.mono (by decide)) (pa_cons (pe_def D_many_orders (hr.mono (by decide)) (pa_cons (pv 0) pa_nil)) (pa_cons (pv 1) pa_nil))))), ?_⟩
      exact ⟨_, rfl, a, t, rfl, ha, h1, h2, fun H1 s1 => ⟨_, rfl, _, _, rfl, h3, q _ s1⟩⟩
def onceN (ns : List Int) (n : Nat) : Nat := ((List.range n).filter fun j : Nat => decide (ns.count (j : Int) = 1)).length
theorem count_ints (ns : List Int) (j : Int) : (ns.map V.int).countP (fun z => eqV z (.int j)) = ns.count j := by
  rw [List.countP_map, List.count]
  refine List.countP_congr fun x _ => ?_
  show (x == j) = true ↔ (x == j) = true
  exact Iff.rfl
def spR_check_order (K : PySem.W.Frag) (C : Addr) : Sp := fun vs H Q E => ∃ (a b : Addr) (t : Cart.BT) (ns : List Int), vs = [.ref a, .ref b] ∧ H a = some (.lst (bl t)) ∧ H b = some (.lst (ns.map V.int)) ∧ t.size ≤ 40 ∧ ns.length ≤ 40 ∧ (ns.length = t.size ∧ onceN ns t.size = t.size → eqLs (tl ns) (bl t) = false) ∧
  ∀ H', Same H H' → E (Xk K "NoOrder") none H'
theorem dR_check_order {f C : Addr} {fd : FuncData} (F : Fun K "check_order" "check_order" s_check_order f fd) (T : Txt K mg C) (D_tree_of : Def P w K mg base 44 "tree_of" ["row"] (sp_tree_of K C)) (D_Row : DefC P w K mg base 2 C "Row" ["self", "numbers"] (sp_Row_init K C)) : FnOk P w K mg base (CXE P w) 45 f fd ["tree", "order"] (spR_check_order K C) := by
  refine F.okX sc_check_order (fun vs H Q E h => ?_) (fun cdv A outer s H vs Q E hr h => ?_)
  · obtain ⟨a, b, t, ns, rfl, _⟩ := h
    rfl
  · obtain ⟨a, b, t, ns, rfl, ha, hb, h2, h4, hc, q⟩ := h
    have hbl := bl_len t
    refine ⟨_, (pss_cons (ps_setC (i := 2) ["order"] [1] sc_check_order.nd rfl rfl (pi_range1 rfl T.z_range (pa_cons (pe_callB call_len_seq rfl T.z_len PySem.boot_len (pa_cons (pv 0) pa_nil)) pa_nil)) (fun _ _ _ _ => (pts_one (pt_cmpR op_eq (pe_bmK (K := K) rfl PySem.F.plainAttrs_list PySem.F.slot_list_count PySem.F.type_list_count mt_count (pv 1) (pa_cons (pv 0) pa_nil)) pe_int (nomark _)))) (fun _ _ _ _ => (pv 0)))
      (pss_cons (ps_if (PW.pt (pw_or (pt_cmpR op_ne (pe_callB call_len_seq rfl T.z_len PySem.boot_len (pa_cons (pv 1) pa_nil)) (pe_callB call_len_seq rfl T.z_len PySem.boot_len (pa_cons (pv 0) pa_nil)) (nomark _)) (pw_or1 (pt_cmpR op_ne (pe_callB call_len_seq rfl T.z_len PySem.boot_len (pa_cons (pv 2) pa_nil)) (pe_callB call_len_seq rfl T.z_len PySem.boot_len (pa_cons (pv 0) pa_nil)) (nomark _))))) (pss_one (ps_raise (E := E) rfl rfl T.e_NoOrder.mg T.e_NoOrder.cls (pa_cons pe_str pa_nil) raise_body)) pss_nil)
      (pss_one (ps_if (pt_cmpR (op_neS hr.units0) (pe_def D_tree_of (hr.mono (by decide)) (pa_cons (pe_Row D_Row (hr.mono (by decide)) (pa_cons (pv 1) pa_nil)) pa_nil)) (pv 0) (nomark _)) (pss_one (ps_raise (E := E) rfl rfl T.e_NoOrder.mg T.e_NoOrder.cls (pa_cons pe_str pa_nil) raise_body)) pss_nil)))), ?_⟩
    refine ⟨_, rfl, a, _, rfl, .inl (SqL.of ha), _, rfl, (by omega), (by omega), ?_⟩
    rw [hbl, Int.toNat_natCast]
    refine comp_range (fun j => decide (ns.count (j : Int) = 1)) (fun j => .int (j : Int)) (by omega) (fun j H3 Q' hj t1 q' => ?_) (fun j H3 Q' hj _ t1 q' => ?_) fun D H3 t1 hD e3 => ?_
    · have e0 : (0 : Int) + (j : Int) = j := by omega
      rw [e0]
      have hb3 := t1 _ _ hb
      refine ⟨_, rfl, .inl ⟨rfl, _, SqL.of hb3⟩, _, rfl, b, _, _, rfl, rfl, hb3, flat_ints _, rfl, rfl, _, rfl, ?_⟩
      rw [count_ints]
      have ed : decide (V.int ((ns.count (j : Int) : Nat) : Int) = V.int 1) = decide (ns.count (j : Int) = 1) := by
        rw [Bool.eq_iff_iff, decide_eq_true_iff, decide_eq_true_iff]
        refine ⟨fun z => ?_, fun z => by rw [z]; rfl⟩
        have := V.int.inj z
        omega
      rw [ed]
      exact q'
    · have e0 : (0 : Int) + (j : Int) = j := by omega
      rw [e0]
      exact ⟨_, rfl, q' _ (Same.refl _)⟩
    · have hlen : (((List.range t.size).filter fun j : Nat => decide (ns.count (j : Int) = 1)).map fun j : Nat => V.int (j : Int)).length = onceN ns t.size := List.length_map _
      try dsimp only [gName, List.set]
      have ha3 := t1 _ _ ha
      have hb3 := t1 _ _ hb
      refine ⟨_, rfl, b, _, rfl, .inl (SqL.of hb3), _, rfl, a, _, rfl, .inl (SqL.of ha3), rfl, _, rfl, ?_⟩
      by_cases c1 : ns.length = t.size
      · rw [decide_eq_true (show V.int (((ns.map V.int).length : Nat) : Int) = V.int (((bl t).length : Nat) : Int) by rw [List.length_map, c1, hbl])]
        refine iteF ?_
        refine ⟨_, rfl, D, _, rfl, .inl (SqL.of e3), _, rfl, a, _, rfl, .inl (SqL.of ha3), rfl, _, rfl, ?_⟩
        by_cases c2 : onceN ns t.size = t.size
        · rw [decide_eq_true (show V.int ((_ : Nat) : Int) = V.int (((bl t).length : Nat) : Int) by rw [hlen, hbl, c2])]
          refine iteF ?_
          refine ⟨_, rfl, b, _, rfl, SqL.of hb3, h4, fun p d H4 _ _ s4 R4 => ?_⟩
          refine ⟨p, d, _, rfl, R4, fun l H5 s5 _ e5 => ?_⟩
          have s35 := s4.trans s5
          refine ⟨_, rfl, l, a, _, _, rfl, rfl, .inl ⟨SqL.of e5, SqL.of (s35 _ _ ha3)⟩, tl_flat _, bl_flat _, _, rfl, ?_⟩
          rw [hc ⟨c1, c2⟩]
          exact iteT ⟨(by show 1 ≤ sizeLine; decide), q _ (t1.trans s35)⟩
        · rw [decide_eq_false (show ¬ V.int ((_ : Nat) : Int) = V.int (((bl t).length : Nat) : Int) by
            rw [hlen, hbl]
            intro z
            have := V.int.inj z
            omega)]
          exact iteT ⟨(by show 1 ≤ sizeLine; decide), q _ t1⟩
      · rw [decide_eq_false (show ¬ V.int (((ns.map V.int).length : Nat) : Int) = V.int (((bl t).length : Nat) : Int) by
          rw [List.length_map, hbl]
          intro z
          have := V.int.inj z
          omega)]
        exact iteT ⟨(by show 1 ≤ sizeLine; decide), q _ t1⟩
def spR_order_number (K : PySem.W.Frag) (C : Addr) : Sp := fun vs H Q E => ∃ (a b : Addr), vs = [.ref a, .ref b] ∧ ((∃ xs : List V, H a = some (.lst xs) ∧ Shp xs ∧ xs.length ≤ 60 ∧ ¬ IsT xs ∧ ∀ H', Same H H' → E (Xk K "NoTree") none H') ∨
  ∃ (t : Cart.BT) (ns : List Int), H a = some (.lst (bl t)) ∧ H b = some (.lst (ns.map V.int)) ∧ 0 < t.size ∧ t.size ≤ 40 ∧ ns.length ≤ 40 ∧ (ns.length = t.size ∧ onceN ns t.size = t.size → eqLs (tl ns) (bl t) = false) ∧ ∀ H', Same H H' → E (Xk K "NoOrder") none H')
theorem dR_order_number {f C : Addr} {fd : FuncData} (F : Fun K "order_number" "order_number" s_order_number f fd) (T : Txt K mg C) (D_check_tree : Def P w K mg base 44 "check_tree" ["some"] (sp_check_tree K C)) (DR_check_tree : DefX P w K mg base 44 "check_tree" ["some"] (spR_check_tree K C)) (DR_check_order : DefX P w K mg base 45 "check_order" ["tree", "order"] (spR_check_order K C)) : FnOk P w K mg base (CXE P w) 46 f fd ["tree", "order"] (spR_order_number K C) := by
  refine F.okX sc_order_number (fun vs H Q E h => ?_) (fun cdv A outer s H vs Q E hr h => ?_)
  · obtain ⟨a, b, rfl, _⟩ := h
    rfl
  · obtain ⟨a, b, rfl, h0⟩ := h
    rcases h0 with ⟨xs, ha, h1, h2, h3, q⟩ | ⟨t, ns, ha, hb, h1, h2, h3, h4, q⟩
    · refine ⟨_, (pss_dead (ps_expr (pe_defX DR_check_tree pass_body (hr.mono (by decide)) (pa_cons (pv 0) pa_nil)))), ?_⟩
      exact ⟨_, rfl, a, xs, rfl, ha, h1, h2, h3, q⟩
    · refine ⟨_, (pss_cons (ps_expr (pe_def D_check_tree (hr.mono (by decide)) (pa_cons (pv 0) pa_nil)))
      (pss_dead (ps_expr (pe_defX DR_check_order pass_body (hr.mono (by decide)) (pa_cons (pv 0) (pa_cons (pv 1) pa_nil)))))), ?_⟩
      refine ⟨_, rfl, a, t, rfl, ha, h1, h2, fun H1 s1 => ?_⟩
      exact ⟨_, rfl, _, rfl, a, b, t, ns, rfl, s1 _ _ ha, s1 _ _ hb, h2, h3, h4, fun H' s' => q _ (s1.trans s')⟩
theorem any_neg' {ns : List Int} (h : ∃ x ∈ ns, x < 0) : (ns.map fun z => decide (z < 0)).any id = true := by
  obtain ⟨x, hx, hn⟩ := h
  exact List.any_eq_true.mpr ⟨true, List.mem_map.mpr ⟨x, hx, decide_eq_true hn⟩, rfl⟩
def negB : V → V
  | .int z => .bl (decide (z < 0))
  | _ => .non
theorem map_negB (ns : List Int) : ((ns.map V.int).filter fun _ => true).map negB = (ns.map fun z => decide (z < 0)).map V.bl := by
  rw [List.filter_eq_self.mpr (fun _ _ => rfl), List.map_map, List.map_map]
  rfl
def spR_towers_of (K : PySem.W.Frag) (C : Addr) : Sp := fun vs H Q E => ∃ (p d : Addr) (ns : List Int), vs = [.ref p] ∧ RowAt C H p d ns ∧ (∃ x ∈ ns, x < 0) ∧ ∀ H', Same H H' → E (Xk K "NoSky") none H'
theorem dR_towers_of {f C : Addr} {fd : FuncData} (F : Fun K "towers_of" "towers_of" s_towers_of f fd) (T : Txt K mg C) (D_Row_numbers : DefM P w K mg base 1 C "numbers" ["self"] (sp_Row_numbers K C)) : FnOk P w K mg base (CXE P w) 2 f fd ["row"] (spR_towers_of K C) := by
  refine F.okX sc_towers_of (fun vs H Q E h => ?_) (fun cdv A outer s H vs Q E hr h => ?_)
  · obtain ⟨p, d, ns, rfl, _⟩ := h
    rfl
  · obtain ⟨p, d, ns, rfl, R, hnn, q⟩ := h
    obtain ⟨dx, o1⟩ := R.ob
    have hs := R.sm
    refine ⟨_, (pss_cons (ps_set (i := 1) sc_towers_of.nd rfl (by first | exact Or.inl rfl | exact Or.inr rfl) (pe_defM0 D_Row_numbers T.cl (hr.mono (by decide)) (pv 0)))
      (pss_cons (ps_if (pt_val (pe_callB (call_anyL rfl) rfl T.z_any PyProof.Rows.boot_any (pa_cons (pe_comp [] []  (pi_list (pv 1)) (fun _ _ _ _ => pts_nil) (fun _ _ _ _ => (pe_cmpR op_lt (pv 0) pe_int (nomark _)))) pa_nil))) (pss_one (ps_raise (E := E) rfl rfl T.e_NoSky.mg T.e_NoSky.cls (pa_cons pe_str pa_nil) raise_body)) pss_nil)
      (pss_one (ps_ret (pv 1))))), ?_⟩
    refine ⟨_, rfl, p, dx, _, rfl, o1, flds_no _ (by decide +kernel), p, d, ns, rfl, R, fun l hl => ?_⟩
    have s1 := same_new hl (.lst (ns.map V.int))
    dsimp only [gName, List.set]
    refine ⟨_, rfl, l, rfl, ⟨_, SqL.of upd_same⟩, ?_⟩
    refine comp_list (fun _ => true) negB (by rw [List.length_map]; omega) (SqL.of upd_same) (fun x H3 Q' hx s3 q' => q') (fun x H3 Q' hx _ s3 q' => ?_) fun D H3 s3 hD e3 => ?_
    · obtain ⟨z, _, rfl⟩ := List.mem_map.mp hx
      exact ⟨_, rfl, _, _, rfl, rfl, q' _ (Same.refl _)⟩
    · rw [map_negB] at e3
      refine ⟨D, _, rfl, SqL.of e3, _, rfl, ?_⟩
      rw [any_neg' hnn]
      exact iteT ⟨(by show 1 ≤ sizeLine; decide), q _ (s1.trans s3)⟩
def spR_widest (K : PySem.W.Frag) (C : Addr) : Sp := fun vs H Q E => ∃ (p d : Addr) (ns : List Int), vs = [.ref p] ∧ RowAt C H p d ns ∧ ((∃ x ∈ ns, x < 0) ∨ ns = []) ∧ ∀ H', Same H H' → E (Xk K "NoSky") none H'
theorem dR_widest {f C : Addr} {fd : FuncData} (F : Fun K "widest" "widest" s_widest f fd) (T : Txt K mg C) (D_towers_of : Def P w K mg base 2 "towers_of" ["row"] (sp_towers_of K C)) (DR_towers_of : DefX P w K mg base 2 "towers_of" ["row"] (spR_towers_of K C)) : FnOk P w K mg base (CXE P w) 3 f fd ["row"] (spR_widest K C) := by
  refine F.okX sc_widest (fun vs H Q E h => ?_) (fun cdv A outer s H vs Q E hr h => ?_)
  · obtain ⟨p, d, ns, rfl, _⟩ := h
    rfl
  · obtain ⟨p, d, ns, rfl, R, h0, q⟩ := h
    rcases h0 with h0 | h0
    · refine ⟨_, (pss_dead (ps_set (i := 1) sc_widest.nd rfl (by first | exact Or.inl rfl | exact Or.inr rfl) (pe_defX DR_towers_of pass_body (hr.mono (by decide)) (pa_cons (pv 0) pa_nil)))), ?_⟩
      exact ⟨_, rfl, p, d, ns, rfl, R, h0, q⟩
    · subst h0
      refine ⟨_, (pss_cons (ps_set (i := 1) sc_widest.nd rfl (by first | exact Or.inl rfl | exact Or.inr rfl) (pe_def D_towers_of (hr.mono (by decide)) (pa_cons (pv 0) pa_nil)))
      (pss_dead (ps_if (pt_cmpR (op_eqS hr.units0) (pv 1) (pe_lst pa_nil) (nomark _)) (pss_one (ps_raise (E := E) rfl rfl T.e_NoSky.mg T.e_NoSky.cls (pa_cons pe_str pa_nil) raise_body)) pss_nil))), ?_⟩
      refine ⟨_, rfl, p, d, [], rfl, R, (fun x hx => by cases hx), fun l H1 s1 hl e1 => ?_⟩
      dsimp only [gName, List.set]
      refine ⟨_, rfl, (by show 0 ≤ sizeLine; decide), fun l0 hl0 => ?_⟩
      have s0 := same_new hl0 (.lst [])
      refine ⟨l, l0, _, _, rfl, rfl, .inl ⟨SqL.of (s0 _ _ e1), SqL.of upd_same⟩, rfl, rfl, _, rfl, ?_⟩
      exact iteT ⟨(by show 1 ≤ sizeLine; decide), q _ (s1.trans s0)⟩
def spR_water (K : PySem.W.Frag) (C : Addr) : Sp := fun vs H Q E => ∃ (p d : Addr) (ns : List Int), vs = [.ref p] ∧ RowAt C H p d ns ∧ (∃ x ∈ ns, x < 0) ∧ ∀ H', Same H H' → E (Xk K "NoSky") none H'
theorem dR_water {f C : Addr} {fd : FuncData} (F : Fun K "water" "water" s_water f fd) (T : Txt K mg C) (DR_towers_of : DefX P w K mg base 2 "towers_of" ["row"] (spR_towers_of K C)) : FnOk P w K mg base (CXE P w) 3 f fd ["row"] (spR_water K C) := by
  refine F.okX sc_water (fun vs H Q E h => ?_) (fun cdv A outer s H vs Q E hr h => ?_)
  · obtain ⟨p, d, ns, rfl, _⟩ := h
    rfl
  · obtain ⟨p, d, ns, rfl, R, h0, q⟩ := h
    refine ⟨_, (pss_dead (ps_set (i := 1) sc_water.nd rfl (by first | exact Or.inl rfl | exact Or.inr rfl) (pe_defX DR_towers_of pass_body (hr.mono (by decide)) (pa_cons (pv 0) pa_nil)))), ?_⟩
    exact ⟨_, rfl, p, d, ns, rfl, R, h0, q⟩
theorem md {c k : Int} (h : 0 < k) : 0 ≤ c % k ∧ c % k < k := ⟨Int.emod_nonneg _ (by omega), Int.emod_lt_of_pos _ h⟩
def spR_law_no_row (K : PySem.W.Frag) (C : Addr) : Sp := fun vs H Q E => ∃ (p d p' d' : Addr) (ns ms : List Int) (cell : Int), vs = [.ref p, .ref p', .int cell] ∧ RowAt C H p d ns ∧ RowAt C H p' d' ms ∧ 0 < ns.length ∧ ms.length = 40 ∧ ∀ H', Same H H' → E (Xk K "NoRow") none H'
theorem dR_law_no_row {f C : Addr} {fd : FuncData} (F : Fun K "_law_no_row" "_law_no_row" s_law_no_row f fd) (T : Txt K mg C) (DR_Row : DefCX P w K mg base 2 C "Row" ["self", "numbers"] (spR_Row_init K C)) (DR_Row_put_in : DefMX P w K mg base 2 C "put_in" ["self", "place", "number"] (spR_Row_put_in K C)) (DR_joined : DefX P w K mg base 4 "joined" ["one", "other"] (spR_joined K C)) : FnOk P w K mg base (CXE P w) 5 f fd ["row", "full", "cell"] (spR_law_no_row K C) := by
  refine F.okX sc_law_no_row (fun vs H Q E h => ?_) (fun cdv A outer s H vs Q E hr h => ?_)
  · obtain ⟨p, d, p', d', ns, ms, cell, rfl, _⟩ := h
    rfl
  · obtain ⟨p, d, p', d', ns, ms, cell, rfl, R, R', h0, h1, q⟩ := h
    obtain ⟨dx, o1⟩ := R'.ob
    refine ⟨_, (pss_cons (ps_set (i := 3) sc_law_no_row.nd rfl (by first | exact Or.inl rfl | exact Or.inr rfl) (pe_op op_mod (pv 2) pe_int))
      (pss_one (ps_if (pt_cmpR op_eq (pv 3) pe_int (nomark _)) (pss_one (ps_expr (pe_defCX DR_Row pass_body (hr.mono (by decide)) (pa_cons (pe_op op_rep (pe_lst (pa_cons pe_int pa_nil)) (pe_op op_add pe_int (pe_op op_mod (pe_op op_fdiv (pv 2) pe_int) pe_int))) pa_nil)))) (pss_one (ps_if (pt_cmpR op_eq (pv 3) pe_int (nomark _)) (pss_one (ps_expr (pe_defMX DR_Row_put_in T.cl pass_body (hr.mono (by decide)) (pv 1) (pa_cons (pe_ix ix_list (pe_lst (pa_cons pe_int (pa_cons pe_int (pa_cons pe_int (pa_cons (pe_un un_neg pe_int) pa_nil))))) (pe_op op_mod (pe_op op_fdiv (pv 2) pe_int) pe_int) (fun _ _ => rfl)) (pa_cons pe_int pa_nil))))) (pss_one (ps_if (pt_cmpR op_eq (pv 3) pe_int (nomark _)) (pss_one (ps_expr (pe_defX DR_joined pass_body (hr.mono (by decide)) (pa_cons (pv 1) (pa_cons (pv 0) pa_nil))))) (pss_one (ps_expr (pe_defX DR_joined pass_body (hr.mono (by decide)) (pa_cons (pv 0) (pa_cons (pv 1) pa_nil)))))))))))), ?_⟩
    refine ⟨_, rfl, _, _, rfl, rfl, (by show (0 : Int) < 4; decide), ?_⟩
    refine ⟨_, rfl, rfl, _, rfl, ite2 (fun _ => ?_) (fun _ => ?_)⟩
    · refine ⟨(by show 1 ≤ sizeLine; decide), fun l0 hl0 => ?_⟩
      have s0 := same_new hl0 (.lst [.int 5])
      obtain ⟨z0, z1⟩ := md (c := cell / 4) (k := 20) (by decide)
      refine ⟨_, rfl, _, _, rfl, rfl, ⟨by omega, by omega⟩, _, _, rfl, rfl, (by show (0 : Int) < 20; decide), _, _, rfl, rfl, l0, _, _, rfl, rfl, upd_same, (by omega), (by omega), (by show 1 * (41 + cell / 4 % 20).toNat ≤ sizeLine; exact small (by omega)), fun l hl => ?_⟩
      have s1 := same_new hl (.lst (List.replicate (41 + cell / 4 % 20).toNat [V.int 5]).flatten)
      exact fun x dx hx hdx _ => ⟨x, l, _, rfl, (same_made hx hdx).seq (SqL.of upd_same), (by rw [List.length_flatten]; simp; omega), q _ (s0.trans (s1.trans (same_made hx hdx)))⟩
    · refine ⟨_, rfl, rfl, _, rfl, ite2 (fun _ => ?_) (fun _ => ?_)⟩
      · obtain ⟨z0, z1⟩ := md (c := cell / 4) (k := 4) (by decide)
        refine ⟨_, rfl, p', dx, _, rfl, o1, flds_no _ (by decide +kernel), _, rfl, (by show 4 ≤ sizeLine; decide), fun l hl => ?_⟩
        have s0 := same_new hl (.lst [.int 0, .int 40, .int 41, .int (-1)])
        obtain ⟨v, hv⟩ : ∃ v, atI ([.int 0, .int 40, .int 41, .int (-1)] : List V) (cell / 4 % 4) = some (.int v) := by
          generalize cell / 4 % 4 = z at z0 z1
          rcases (show z = 0 ∨ z = 1 ∨ z = 2 ∨ z = 3 by omega) with e | e | e | e <;> subst e <;> exact ⟨_, rfl⟩
        refine ⟨_, rfl, _, _, rfl, rfl, ⟨by omega, by omega⟩, _, _, rfl, rfl, (by show (0 : Int) < 4; decide), l, _, _, _, rfl, rfl, SqL.of upd_same, hv, ?_⟩
        exact ⟨p', d', ms, v, 5, rfl, R'.same s0, .inl ⟨h1, q _ s0⟩⟩
      · refine ⟨_, rfl, rfl, _, rfl, ite2 (fun _ => ?_) (fun _ => ?_)⟩
        · exact ⟨_, rfl, _, rfl, p', d', p, d, ms, ns, rfl, R', R, (by omega), q⟩
        · exact ⟨_, rfl, _, rfl, p, d, p', d', ns, ms, rfl, R, R', (by omega), q⟩
def spR_law_no_place (K : PySem.W.Frag) (C : Addr) : Sp := fun vs H Q E => ∃ (p d : Addr) (ns : List Int) (cell far : Int), vs = [.ref p, .int cell, .int far] ∧ RowAt C H p d ns ∧ ns.length = 3 ∧ 0 ≤ far ∧ ∀ H', Same H H' → E (Xk K "NoPlace") none H'
theorem dR_law_no_place {f C : Addr} {fd : FuncData} (F : Fun K "_law_no_place" "_law_no_place" s_law_no_place f fd) (T : Txt K mg C) (DR_Row_set_at : DefMX P w K mg base 2 C "set_at" ["self", "place", "number"] (spR_Row_set_at K C)) (DR_Row_take_out : DefMX P w K mg base 2 C "take_out" ["self", "place"] (spR_Row_take_out K C)) (DR_Row_put_in : DefMX P w K mg base 2 C "put_in" ["self", "place", "number"] (spR_Row_put_in K C)) (DR_Row_cut : DefMX P w K mg base 2 C "cut" ["self", "place"] (spR_Row_cut K C)) : FnOk P w K mg base (CXE P w) 3 f fd ["row", "cell", "far"] (spR_law_no_place K C) := by
  refine F.okX sc_law_no_place (fun vs H Q E h => ?_) (fun cdv A outer s H vs Q E hr h => ?_)
  · obtain ⟨p, d, ns, cell, far, rfl, _⟩ := h
    rfl
  · obtain ⟨p, d, ns, cell, far, rfl, R, h0, h1, q⟩ := h
    refine ⟨_, (pss_cons (ps_set (i := 3) sc_law_no_place.nd rfl (by first | exact Or.inl rfl | exact Or.inr rfl) (pe_op op_mod (pv 1) pe_int))
      (pss_cons (ps_set (i := 4) sc_law_no_place.nd rfl (by first | exact Or.inl rfl | exact Or.inr rfl) (pe_ix ix_list (pe_lst (pa_cons (pe_op op_sub (pe_un un_neg pe_int) (pv 2)) (pa_cons pe_int (pa_cons (pe_op op_add pe_int (pv 2)) pa_nil)))) (pe_op op_mod (pe_op op_fdiv (pv 1) pe_int) pe_int) (fun _ _ => rfl)))
      (pss_one (ps_if (pt_cmpR op_eq (pv 3) pe_int (nomark _)) (pss_one (ps_expr (pe_defMX DR_Row_set_at T.cl pass_body (hr.mono (by decide)) (pv 0) (pa_cons (pv 4) (pa_cons pe_int pa_nil))))) (pss_one (ps_if (pt_cmpR op_eq (pv 3) pe_int (nomark _)) (pss_one (ps_expr (pe_defMX DR_Row_take_out T.cl pass_body (hr.mono (by decide)) (pv 0) (pa_cons (pv 4) pa_nil)))) (pss_one (ps_if (pt_cmpR op_eq (pv 3) pe_int (nomark _)) (pss_one (ps_expr (pe_defMX DR_Row_put_in T.cl pass_body (hr.mono (by decide)) (pv 0) (pa_cons (pe_ix ix_list (pe_lst (pa_cons (pe_op op_sub (pe_un un_neg pe_int) (pv 2)) (pa_cons pe_int (pa_cons (pe_op op_add pe_int (pv 2)) pa_nil)))) (pe_op op_mod (pe_op op_fdiv (pv 1) pe_int) pe_int) (fun _ _ => rfl)) (pa_cons pe_int pa_nil))))) (pss_one (ps_expr (pe_defMX DR_Row_cut T.cl pass_body (hr.mono (by decide)) (pv 0) (pa_cons (pe_ix ix_list (pe_lst (pa_cons (pe_op op_sub (pe_un un_neg pe_int) (pv 2)) (pa_cons pe_int (pa_cons (pe_op op_add pe_int (pv 2)) pa_nil)))) (pe_op op_mod (pe_op op_fdiv (pv 1) pe_int) pe_int) (fun _ _ => rfl)) pa_nil)))))))))))), ?_⟩
    obtain ⟨z0, z1⟩ := md (c := cell / 4) (k := 3) (by decide)
    obtain ⟨v, hv, hb⟩ : ∃ v, atI ([.int (-1 - far), .int 3, .int (3 + far)] : List V) (cell / 4 % 3) = some (.int v) ∧ (v < 0 ∨ 3 ≤ v) := by
      generalize cell / 4 % 3 = z at z0 z1
      rcases (show z = 0 ∨ z = 1 ∨ z = 2 by omega) with e | e | e <;> subst e <;> exact ⟨_, rfl, by omega⟩
    obtain ⟨u, hu, hc⟩ : ∃ v, atI ([.int (-1 - far), .int 4, .int (4 + far)] : List V) (cell / 4 % 3) = some (.int v) ∧ (v < 0 ∨ 4 ≤ v) := by
      generalize cell / 4 % 3 = z at z0 z1
      rcases (show z = 0 ∨ z = 1 ∨ z = 2 by omega) with e | e | e <;> subst e <;> exact ⟨_, rfl, by omega⟩
    refine ⟨_, rfl, _, _, rfl, rfl, (by show (0 : Int) < 4; decide), ?_⟩
    refine ⟨_, rfl, _, rfl, _, _, rfl, rfl, _, rfl, _, _, rfl, rfl, (by show 3 ≤ sizeLine; decide), fun l hl => ?_⟩
    have s0 := same_new hl (.lst [.int (-1 - far), .int 3, .int (3 + far)])
    refine ⟨_, rfl, _, _, rfl, rfl, ⟨by omega, by omega⟩, _, _, rfl, rfl, (by show (0 : Int) < 3; decide), l, _, _, _, rfl, rfl, SqL.of upd_same, hv, ?_⟩
    try dsimp only [gName, List.set]
    have R0 := R.same s0
    obtain ⟨dx, o1⟩ := R0.ob
    generalize upd H l (.lst [.int (-1 - far), .int 3, .int (3 + far)]) = H0 at s0 R0 o1 ⊢
    refine ⟨_, rfl, rfl, _, rfl, ite2 (fun _ => ?_) (fun _ => ?_)⟩
    · exact ⟨_, rfl, p, dx, _, rfl, o1, flds_no _ (by decide +kernel), _, rfl, p, d, ns, v, 1, rfl, R0, (by omega), q _ s0⟩
    · refine ⟨_, rfl, rfl, _, rfl, ite2 (fun _ => ?_) (fun _ => ?_)⟩
      · exact ⟨_, rfl, p, dx, _, rfl, o1, flds_no _ (by decide +kernel), _, rfl, p, d, ns, v, rfl, R0, (by omega), q _ s0⟩
      · refine ⟨_, rfl, rfl, _, rfl, ite2 (fun _ => ?_) (fun _ => ?_)⟩
        · refine ⟨_, rfl, p, dx, _, rfl, o1, flds_no _ (by decide +kernel), _, rfl, _, rfl, _, _, rfl, rfl, _, rfl, _, _, rfl, rfl, (by show 3 ≤ sizeLine; decide), fun l2 hl2 => ?_⟩
          have s1 := same_new hl2 (.lst [.int (-1 - far), .int 4, .int (4 + far)])
          refine ⟨_, rfl, _, _, rfl, rfl, ⟨by omega, by omega⟩, _, _, rfl, rfl, (by show (0 : Int) < 3; decide), l2, _, _, _, rfl, rfl, SqL.of upd_same, hu, ?_⟩
          exact ⟨p, d, ns, u, 1, rfl, R0.same s1, .inr ⟨by omega, by omega, q _ (s0.trans s1)⟩⟩
        · refine ⟨_, rfl, p, dx, _, rfl, o1, flds_no _ (by decide +kernel), _, rfl, _, rfl, _, _, rfl, rfl, _, rfl, _, _, rfl, rfl, (by show 3 ≤ sizeLine; decide), fun l2 hl2 => ?_⟩
          have s1 := same_new hl2 (.lst [.int (-1 - far), .int 4, .int (4 + far)])
          refine ⟨_, rfl, _, _, rfl, rfl, ⟨by omega, by omega⟩, _, _, rfl, rfl, (by show (0 : Int) < 3; decide), l2, _, _, _, rfl, rfl, SqL.of upd_same, hu, ?_⟩
          exact ⟨p, d, ns, u, rfl, R0.same s1, by omega, q _ (s0.trans s1)⟩
theorem named {H H' : Hp} (s : Same H H') : ∃ H3, H3 = H' := ⟨_, rfl⟩
def spR_law_no_stretch (K : PySem.W.Frag) (C : Addr) : Sp := fun vs H Q E => ∃ (p d : Addr) (ns : List Int) (cell far : Int), vs = [.ref p, .int cell, .int far] ∧ RowAt C H p d ns ∧ ns.length = 3 ∧ 0 ≤ far ∧ ∀ H', Same H H' → E (Xk K "NoStretch") none H'
theorem dR_law_no_stretch {f C : Addr} {fd : FuncData} (F : Fun K "_law_no_stretch" "_law_no_stretch" s_law_no_stretch f fd) (T : Txt K mg C) (DR_least : DefX P w K mg base 2 "least" ["row", "first", "behind"] (spR_least K C)) (DR_Row_add_to : DefMX P w K mg base 2 C "add_to" ["self", "first", "behind", "number"] (spR_Row_add_to K C)) : FnOk P w K mg base (CXE P w) 3 f fd ["row", "cell", "far"] (spR_law_no_stretch K C) := by
  refine F.okX sc_law_no_stretch (fun vs H Q E h => ?_) (fun cdv A outer s H vs Q E hr h => ?_)
  · obtain ⟨p, d, ns, cell, far, rfl, _⟩ := h
    rfl
  · obtain ⟨p, d, ns, cell, far, rfl, R, h0, hf, q⟩ := h
    refine ⟨_, (pss_cons (ps_set (i := 3) sc_law_no_stretch.nd rfl (by first | exact Or.inl rfl | exact Or.inr rfl) (pe_lst (pa_cons (pe_tup (pa_cons (pe_op op_sub (pe_un un_neg pe_int) (pv 2)) (pa_cons pe_int pa_nil))) (pa_cons (pe_tup (pa_cons pe_int (pa_cons pe_int pa_nil))) (pa_cons (pe_tup (pa_cons pe_int (pa_cons pe_int pa_nil))) (pa_cons (pe_tup (pa_cons pe_int (pa_cons pe_int pa_nil))) pa_nil))))))
      (pss_cons (ps_set (i := 3) sc_law_no_stretch.nd rfl (by first | exact Or.inl rfl | exact Or.inr rfl) (pe_op op_cat (pv 3) (pe_lst (pa_cons (pe_tup (pa_cons pe_int (pa_cons (pe_op op_add pe_int (pv 2)) pa_nil))) (pa_cons (pe_tup (pa_cons pe_int (pa_cons pe_int pa_nil))) (pa_cons (pe_tup (pa_cons pe_int (pa_cons (pe_op op_sub (pe_un un_neg pe_int) (pv 2)) pa_nil))) (pa_cons (pe_tup (pa_cons (pe_un un_neg pe_int) (pa_cons (pe_un un_neg pe_int) pa_nil))) pa_nil)))))))
      (pss_cons (ps_set (i := 4) sc_law_no_stretch.nd rfl (by first | exact Or.inl rfl | exact Or.inr rfl) (pe_ix ix_list (pv 3) (pe_op op_mod (pe_op op_fdiv (pv 1) pe_int) pe_int) (fun _ _ => rfl)))
      (pss_one (ps_if (pt_cmpR op_eq (pe_op op_mod (pv 1) pe_int) pe_int (nomark _)) (pss_one (ps_expr (pe_defX DR_least pass_body (hr.mono (by decide)) (pa_cons (pv 0) (pa_cons (pe_ix ix_tup (pv 4) pe_int (fun _ _ => rfl)) (pa_cons (pe_ix ix_tup (pv 4) pe_int (fun _ _ => rfl)) pa_nil)))))) (pss_one (ps_expr (pe_defMX DR_Row_add_to T.cl pass_body (hr.mono (by decide)) (pv 0) (pa_cons (pe_ix ix_tup (pv 4) pe_int (fun _ _ => rfl)) (pa_cons (pe_ix ix_tup (pv 4) pe_int (fun _ _ => rfl)) (pa_cons pe_int pa_nil))))))))))), ?_⟩
    have sz : 2 ≤ sizeLine := by decide
    refine ⟨_, rfl, _, rfl, _, _, rfl, rfl, sz, fun t1 h1 => ⟨sz, fun t2 h2 => ⟨sz, fun t3 h3 => ⟨sz, fun t4 h4 => ⟨(by show 4 ≤ sizeLine; decide), fun l hl => ?_⟩⟩⟩⟩⟩
    try dsimp only at h2 h3 h4 hl
    have s1 := same_new h1 (.tup [.int (-1 - far), .int 2])
    have s2 := same_new h2 (.tup [.int 0, .int 0])
    have s3 := same_new h3 (.tup [.int 2, .int 2])
    have s4 := same_new h4 (.tup [.int 2, .int 1])
    have s5 := same_new hl (.lst [.ref t1, .ref t2, .ref t3, .ref t4])
    try dsimp only [gName, List.set]
    refine ⟨_, rfl, _, rfl, _, _, rfl, rfl, sz, fun t5 h5 => ⟨sz, fun t6 h6 => ⟨_, rfl, _, rfl, _, _, rfl, rfl, sz, fun t7 h7 => ⟨_, rfl, _, rfl, sz, fun t8 h8 => ⟨(by show 4 ≤ sizeLine; decide), fun l2 hl2 => ?_⟩⟩⟩⟩⟩
    try dsimp only at h5 h6 h7 h8 hl2
    have s6 := same_new h5 (.tup [.int 0, .int (4 + far)])
    have s7 := same_new h6 (.tup [.int 3, .int 4])
    have s8 := same_new h7 (.tup [.int 1, .int (-1 - far)])
    have s9 := same_new h8 (.tup [.int (-2), .int (-1)])
    have sA := same_new hl2 (.lst [.ref t5, .ref t6, .ref t7, .ref t8])
    have s6A := s6.trans (s7.trans (s8.trans (s9.trans sA)))
    refine ⟨l, l2, _, _, rfl, rfl, s6A _ _ upd_same, upd_same, small (by show 4 + 4 ≤ 1000; decide), fun l3 hl3 => ?_⟩
    have sB := same_new hl3 (.lst ([.ref t1, .ref t2, .ref t3, .ref t4] ++ [.ref t5, .ref t6, .ref t7, .ref t8]))
    have e1 := sB _ _ (s6A _ _ (s5 _ _ (s4 _ _ (s3 _ _ (s2 _ _ (upd_same (H := H) (a := t1) (o := .tup [.int (-1 - far), .int 2])))))))
    have e2 := sB _ _ (s6A _ _ (s5 _ _ (s4 _ _ (s3 _ _ upd_same))))
    have e3 := sB _ _ (s6A _ _ (s5 _ _ (s4 _ _ upd_same)))
    have e4 := sB _ _ (s6A _ _ (s5 _ _ upd_same))
    have e5 := sB _ _ (sA _ _ (s9 _ _ (s8 _ _ (s7 _ _ upd_same))))
    have e6 := sB _ _ (sA _ _ (s9 _ _ (s8 _ _ upd_same)))
    have e7 := sB _ _ (sA _ _ (s9 _ _ upd_same))
    have e8 := sB _ _ (sA _ _ upd_same)
    have sC := s1.trans (s2.trans (s3.trans (s4.trans (s5.trans (s6A.trans sB)))))
    obtain ⟨H3, hH3⟩ := named sB
    have eL : H3 l3 = some (.lst ([.ref t1, .ref t2, .ref t3, .ref t4] ++ [.ref t5, .ref t6, .ref t7, .ref t8])) := by rw [hH3]; exact upd_same
    try dsimp only
    rw [← hH3] at e1 e2 e3 e4 e5 e6 e7 e8 sC ⊢
    try dsimp only [gName, List.set]
    obtain ⟨z0, z1⟩ := md (c := cell / 2) (k := 8) (by decide)
    obtain ⟨t, a, b, hv, ht, hb⟩ : ∃ t a b, atI ([.ref t1, .ref t2, .ref t3, .ref t4] ++ [.ref t5, .ref t6, .ref t7, .ref t8] : List V) (cell / 2 % 8) = some (.ref t) ∧ H3 t = some (.tup [.int a, .int b]) ∧ ¬ (0 ≤ a ∧ a < b ∧ b ≤ 3) := by
      generalize cell / 2 % 8 = z at z0 z1
      rcases (show z = 0 ∨ z = 1 ∨ z = 2 ∨ z = 3 ∨ z = 4 ∨ z = 5 ∨ z = 6 ∨ z = 7 by omega) with e | e | e | e | e | e | e | e <;> subst e
      · exact ⟨t1, _, _, rfl, e1, by omega⟩
      · exact ⟨t2, _, _, rfl, e2, by omega⟩
      · exact ⟨t3, _, _, rfl, e3, by omega⟩
      · exact ⟨t4, _, _, rfl, e4, by omega⟩
      · exact ⟨t5, _, _, rfl, e5, by omega⟩
      · exact ⟨t6, _, _, rfl, e6, by omega⟩
      · exact ⟨t7, _, _, rfl, e7, by omega⟩
      · exact ⟨t8, _, _, rfl, e8, by omega⟩
    try dsimp only [gName, List.set]
    refine ⟨_, rfl, _, rfl, _, _, rfl, rfl, ⟨by omega, by omega⟩, _, _, rfl, rfl, (by show (0 : Int) < 8; decide), l3, _, _, _, rfl, rfl, SqL.of eL, hv, ?_⟩
    have R3 := R.same sC
    obtain ⟨dx, o1⟩ := R3.ob
    try dsimp only [gName, List.set]
    refine ⟨_, rfl, _, _, rfl, rfl, (by show (0 : Int) < 2; decide), rfl, _, rfl, ite2 (fun _ => ?_) (fun _ => ?_)⟩
    · exact ⟨_, rfl, _, rfl, t, _, _, _, rfl, rfl, SqT.of ht, rfl, _, rfl, t, _, _, _, rfl, rfl, SqT.of ht, rfl, p, d, ns, a, b, rfl, R3, (by rw [h0]; exact hb), fun H' s' => q _ (sC.trans s')⟩
    · exact ⟨_, rfl, p, dx, _, rfl, o1, flds_no _ (by decide +kernel), _, rfl, t, _, _, _, rfl, rfl, SqT.of ht, rfl, _, rfl, t, _, _, _, rfl, rfl, SqT.of ht, rfl, p, d, ns, a, b, 5, rfl, R3, (by rw [h0]; exact hb), q _ sC⟩
def bts : Nat → List Cart.BT
  | 0 => [.nil]
  | n + 1 => .nil :: (bts n).flatMap fun a => (bts n).map fun b => .node a b
theorem bts_mem : ∀ (n : Nat) (t : Cart.BT), t.size ≤ n → t ∈ bts n
  | 0, .nil, _ => List.mem_singleton.mpr rfl
  | 0, .node l r, h => by have : l.size + r.size + 1 ≤ 0 := h; omega
  | n + 1, .nil, _ => List.mem_cons_self ..
  | n + 1, .node l r, h => by
    have h' : l.size + r.size + 1 ≤ n + 1 := h
    exact List.mem_cons_of_mem _ (List.mem_flatMap.mpr ⟨l, bts_mem n l (by omega), List.mem_map.mpr ⟨r, bts_mem n r (by omega), rfl⟩⟩)
theorem oVs_inj : ∀ {xs ys : List (Option Nat)}, xs.map oV = ys.map oV → xs = ys
  | [], [], _ => rfl
  | [], _ :: _, h => by cases h
  | _ :: _, [], h => by cases h
  | x :: xs, y :: ys, h => by
    have h1 := (List.cons.inj h).1
    have h2 := (List.cons.inj h).2
    rw [oV_inj h1, oVs_inj h2]
theorem not_tree {L : List (Option Nat)} (n : Nat) (hl : L.length ≤ n) (h : (bts n).all (fun t => !(t.list 0 none == L)) = true) (h0 : 0 < L.length) : ¬ IsT (L.map oV) := fun ⟨t, h1, h2, e⟩ => by
  have e' := oVs_inj e
  have hs : t.size = L.length := by rw [e', Cart.list_len]
  have := List.all_eq_true.mp h t (bts_mem n t (by omega))
  rw [← e'] at this
  simp at this
theorem not_tree_nil : ¬ IsT [] := fun ⟨t, h1, _, e⟩ => by
  have := congrArg List.length e
  rw [List.length_map, Cart.list_len] at this
  have : 0 = t.size := this
  omega
theorem not_tree_far {far : Int} (h : 0 ≤ far) : ¬ IsT [.int (1 + far)] := fun ⟨t, h1, _, e⟩ => by
  have hs := congrArg List.length e
  rw [List.length_map, Cart.list_len] at hs
  have hs : 1 = t.size := hs
  have hm : V.int (1 + far) ∈ (t.list 0 none).map oV := by rw [← e]; exact List.mem_singleton.mpr rfl
  obtain ⟨y, hy, ey⟩ := List.mem_map.mp hm
  rcases Cart.list_mem _ _ _ _ hy with z | ⟨q, z, z1, z2⟩
  · rw [z] at ey; cases ey
  · rw [z] at ey
    have : (q : Int) = 1 + far := V.int.inj ey
    omega
theorem not_tree_neg {xs : List V} {k : Int} (hk : k < 0) (h : V.int k ∈ xs) : ¬ IsT xs := fun ⟨t, h1, _, e⟩ => by
  rw [e] at h
  obtain ⟨y, hy, ey⟩ := List.mem_map.mp h
  cases y with
  | none => cases ey
  | some n =>
    have : (n : Int) = k := V.int.inj ey
    omega
theorem shp_of {xs : List V} (h : xs.all (fun x => match x with | .non => true | .int _ => true | _ => false) = true) : Shp xs := fun x hx => by
  have := List.all_eq_true.mp h x hx
  cases x <;> first | exact .inl rfl | exact .inr ⟨_, rfl⟩ | cases this
def spR_law_no_tree (K : PySem.W.Frag) (C : Addr) : Sp := fun vs H Q E => ∃ (cell far : Int), vs = [.int cell, .int far] ∧ 0 ≤ far ∧ ∀ H', Same H H' → E (Xk K "NoTree") none H'
theorem dR_law_no_tree {f C : Addr} {fd : FuncData} (F : Fun K "_law_no_tree" "_law_no_tree" s_law_no_tree f fd) (T : Txt K mg C) (DR_tree_number : DefX P w K mg base 45 "tree_number" ["tree"] (spR_tree_number K C)) (DR_many_orders : DefX P w K mg base 45 "many_orders" ["tree"] (spR_many_orders K C)) (DR_order_at : DefX P w K mg base 46 "order_at" ["tree", "number"] (spR_order_at K C)) (DR_order_number : DefX P w K mg base 46 "order_number" ["tree", "order"] (spR_order_number K C)) : FnOk P w K mg base (CXE P w) 47 f fd ["cell", "far"] (spR_law_no_tree K C) := by
  refine F.okX sc_law_no_tree (fun vs H Q E h => ?_) (fun cdv A outer s H vs Q E hr h => ?_)
  · obtain ⟨cell, far, rfl, _⟩ := h
    rfl
  · obtain ⟨cell, far, rfl, hf, q⟩ := h
    refine ⟨_, (@pss_cons _ _ _ _ _ (@ps_set _ _ 2 _ _ _ _ sc_law_no_tree.nd rfl (by first | exact Or.inl rfl | exact Or.inr rfl) (@pe_lst _ _ _ _ (@pa_cons _ _ _ _ _ (@pe_lst _ _ _ _ pa_nil) (@pa_cons _ _ _ _ _ (@pe_cl _ _ _ _ (.cons .int .nil)) (@pa_cons _ _ _ _ _ (@pe_cl _ _ _ _ (.cons .int (.cons .int .nil))) (@pa_cons _ _ _ _ _ (@pe_cl _ _ _ _ (.cons .non (.cons .non .nil))) (@pa_cons _ _ _ _ _ (@pe_lst _ _ _ _ (@pa_cons _ _ _ _ _ (pe_op op_add pe_int (pv 1)) pa_nil st_BinOp)) (@pa_cons _ _ _ _ _ (@pe_cl _ _ _ _ (.cons .non (.cons .neg (.cons .int .nil)))) pa_nil st_List) st_List) st_List) st_List) st_List) st_List)) (by kernel_rfl) (by first | exact .inl rfl | exact .inr rfl))
      (@pss_cons _ _ _ _ _ (@ps_set _ _ 2 _ _ _ _ sc_law_no_tree.nd rfl (by first | exact Or.inl rfl | exact Or.inr rfl) (pe_op op_cat (pv 2) (@pe_lst _ _ _ _ (@pa_cons _ _ _ _ _ (@pe_cl _ _ _ _ (.cons .non (.cons .int (.cons .int (.cons .int .nil))))) (@pa_cons _ _ _ _ _ (@pe_cl _ _ _ _ (.cons .int (.cons .non (.cons .int .nil)))) (@pa_cons _ _ _ _ _ (@pe_cl _ _ _ _ (.cons .int (.cons .int (.cons .non (.cons .int .nil))))) pa_nil st_List) st_List) st_List))) (by kernel_rfl) (by first | exact .inl rfl | exact .inr rfl))
      (@pss_cons _ _ _ _ _ (@ps_set _ _ 3 _ _ _ _ sc_law_no_tree.nd rfl (by first | exact Or.inl rfl | exact Or.inr rfl) (pe_ix ix_list (pv 2) (pe_op op_mod (pe_op op_fdiv (pv 0) pe_int) pe_int) (fun _ _ => rfl)) (by kernel_rfl) (by first | exact .inl rfl | exact .inr rfl))
      (@pss_cons _ _ _ _ _ (@ps_set _ _ 4 _ _ _ _ sc_law_no_tree.nd rfl (by first | exact Or.inl rfl | exact Or.inr rfl) (pe_op op_mod (pv 0) pe_int) (by kernel_rfl) (by first | exact .inl rfl | exact .inr rfl))
      (pss_one (ps_if (pt_cmpR op_eq (pv 4) pe_int (nomark _)) (pss_one (ps_expr (pe_defX DR_tree_number pass_body (hr.mono (by decide)) (@pa_cons _ _ _ _ _ (pv 3) pa_nil st_Name)))) (pss_one (ps_if (pt_cmpR op_eq (pv 4) pe_int (nomark _)) (pss_one (ps_expr (pe_defX DR_many_orders pass_body (hr.mono (by decide)) (@pa_cons _ _ _ _ _ (pv 3) pa_nil st_Name)))) (pss_one (ps_if (pt_cmpR op_eq (pv 4) pe_int (nomark _)) (pss_one (ps_expr (pe_defX DR_order_at pass_body (hr.mono (by decide)) (@pa_cons _ _ _ _ _ (pv 3) (@pa_cons _ _ _ _ _ (pe_un un_neg pe_int) pa_nil st_UnaryOp) st_Name)))) (pss_one (ps_expr (pe_defX DR_order_number pass_body (hr.mono (by decide)) (@pa_cons _ _ _ _ _ (pv 3) (@pa_cons _ _ _ _ _ (@pe_cl _ _ _ _ (.cons .int .nil)) pa_nil st_List) st_Name)))))))))))))), ?_⟩
    refine ⟨(by show 0 ≤ sizeLine; decide), fun l1 h1 => ⟨(by show 1 ≤ sizeLine; decide), fun l2 h2 => ⟨(by show 2 ≤ sizeLine; decide), fun l3 h3 => ⟨(by show 2 ≤ sizeLine; decide), fun l4 h4 => ⟨_, rfl, _, _, rfl, rfl, (by show 1 ≤ sizeLine; decide), fun l5 h5 => ⟨(by show 3 ≤ sizeLine; decide), fun l6 h6 => ⟨(by show 6 ≤ sizeLine; decide), fun k1 hk1 => ?_⟩⟩⟩⟩⟩⟩⟩
    try dsimp only at h1 h2 h3 h4 h5 h6 hk1
    have s1 := same_new h1 (.lst [])
    have s2 := same_new h2 (.lst [.int 0])
    have s3 := same_new h3 (.lst [.int 1, .int 0])
    have s4 := same_new h4 (.lst [.non, .non])
    have s5 := same_new h5 (.lst [.int (1 + far)])
    have s6 := same_new h6 (.lst [.non, .int (-1), .int 1])
    have s7 := same_new hk1 (.lst [.ref l1, .ref l2, .ref l3, .ref l4, .ref l5, .ref l6])
    try dsimp only [gName, List.set]
    refine ⟨_, rfl, (by show 4 ≤ sizeLine; decide), fun l7 h7 => ⟨(by show 3 ≤ sizeLine; decide), fun l8 h8 => ⟨(by show 4 ≤ sizeLine; decide), fun l9 h9 => ⟨(by show 3 ≤ sizeLine; decide), fun k2 hk2 => ?_⟩⟩⟩⟩
    try dsimp only at h7 h8 h9 hk2
    have s8 := same_new h7 (.lst [.non, .int 2, .int 0, .int 1])
    have s9 := same_new h8 (.lst [.int 1, .non, .int 0])
    have sA := same_new h9 (.lst [.int 2, .int 2, .non, .int 2])
    have sB := same_new hk2 (.lst [.ref l7, .ref l8, .ref l9])
    have s8B := s8.trans (s9.trans (sA.trans sB))
    refine ⟨k1, k2, _, _, rfl, rfl, s8B _ _ upd_same, upd_same, small (by show 6 + 3 ≤ 1000; decide), fun k3 hk3 => ?_⟩
    have sC := same_new hk3 (.lst ([.ref l1, .ref l2, .ref l3, .ref l4, .ref l5, .ref l6] ++ [.ref l7, .ref l8, .ref l9]))
    have s7C := s7.trans (s8B.trans sC)
    have e1 := s7C _ _ (s6 _ _ (s5 _ _ (s4 _ _ (s3 _ _ (s2 _ _ (upd_same (H := H) (a := l1) (o := .lst [])))))))
    have e2 := s7C _ _ (s6 _ _ (s5 _ _ (s4 _ _ (s3 _ _ upd_same))))
    have e3 := s7C _ _ (s6 _ _ (s5 _ _ (s4 _ _ upd_same)))
    have e4 := s7C _ _ (s6 _ _ (s5 _ _ upd_same))
    have e5 := s7C _ _ (s6 _ _ upd_same)
    have e6 := s7C _ _ upd_same
    have e7 := sC _ _ (sB _ _ (sA _ _ (s9 _ _ upd_same)))
    have e8 := sC _ _ (sB _ _ (sA _ _ upd_same))
    have e9 := sC _ _ (sB _ _ upd_same)
    have sD := s1.trans (s2.trans (s3.trans (s4.trans (s5.trans (s6.trans s7C)))))
    obtain ⟨H3, hH3⟩ := named sC
    have eL : H3 k3 = some (.lst ([.ref l1, .ref l2, .ref l3, .ref l4, .ref l5, .ref l6] ++ [.ref l7, .ref l8, .ref l9])) := by rw [hH3]; exact upd_same
    try dsimp only
    rw [← hH3] at e1 e2 e3 e4 e5 e6 e7 e8 e9 sD ⊢
    obtain ⟨z0, z1⟩ := md (c := cell / 4) (k := 9) (by decide)
    obtain ⟨a, xs, hv, ht, hsh, hlen, hn⟩ : ∃ a xs, atI ([.ref l1, .ref l2, .ref l3, .ref l4, .ref l5, .ref l6] ++ [.ref l7, .ref l8, .ref l9] : List V) (cell / 4 % 9) = some (.ref a) ∧ H3 a = some (.lst xs) ∧ Shp xs ∧ xs.length ≤ 60 ∧ ¬ IsT xs := by
      generalize cell / 4 % 9 = z at z0 z1
      rcases (show z = 0 ∨ z = 1 ∨ z = 2 ∨ z = 3 ∨ z = 4 ∨ z = 5 ∨ z = 6 ∨ z = 7 ∨ z = 8 by omega) with e | e | e | e | e | e | e | e | e <;> subst e
      · exact ⟨l1, _, rfl, e1, shp_of rfl, by decide, not_tree_nil⟩
      · exact ⟨l2, _, rfl, e2, shp_of rfl, by show 1 ≤ 60; decide, not_tree (L := [some 0]) 1 (by decide) (by decide) (by decide)⟩
      · exact ⟨l3, _, rfl, e3, shp_of rfl, by show 2 ≤ 60; decide, not_tree (L := [some 1, some 0]) 2 (by decide) (by decide) (by decide)⟩
      · exact ⟨l4, _, rfl, e4, shp_of rfl, by show 2 ≤ 60; decide, not_tree (L := [none, none]) 2 (by decide) (by decide) (by decide)⟩
      · exact ⟨l5, _, rfl, e5, shp_of rfl, by show 1 ≤ 60; decide, not_tree_far hf⟩
      · exact ⟨l6, _, rfl, e6, shp_of rfl, by show 3 ≤ 60; decide, not_tree_neg (k := -1) (by decide) (.tail _ (.head _))⟩
      · exact ⟨l7, _, rfl, e7, shp_of rfl, by show 4 ≤ 60; decide, not_tree (L := [none, some 2, some 0, some 1]) 4 (by decide) (by decide +kernel) (by decide)⟩
      · exact ⟨l8, _, rfl, e8, shp_of rfl, by show 3 ≤ 60; decide, not_tree (L := [some 1, none, some 0]) 3 (by decide) (by decide +kernel) (by decide)⟩
      · exact ⟨l9, _, rfl, e9, shp_of rfl, by show 4 ≤ 60; decide, not_tree (L := [some 2, some 2, none, some 2]) 4 (by decide) (by decide +kernel) (by decide)⟩
    try dsimp only [gName, List.set]
    refine ⟨_, rfl, _, rfl, _, _, rfl, rfl, ⟨by omega, by omega⟩, _, _, rfl, rfl, (by show (0 : Int) < 9; decide), k3, _, _, _, rfl, rfl, SqL.of eL, hv, ?_⟩
    try dsimp only [gName, List.set]
    refine ⟨_, rfl, _, _, rfl, rfl, (by show (0 : Int) < 4; decide), ?_⟩
    have qq : ∀ H', Same H3 H' → E (Xk K "NoTree") none H' := fun H' s' => q _ (sD.trans s')
    refine ⟨_, rfl, rfl, _, rfl, ite2 (fun _ => ?_) (fun _ => ?_)⟩
    · exact ⟨_, rfl, a, xs, rfl, ht, hsh, hlen, hn, qq⟩
    · refine ⟨_, rfl, rfl, _, rfl, ite2 (fun _ => ?_) (fun _ => ?_)⟩
      · exact ⟨_, rfl, a, xs, rfl, ht, hsh, hlen, hn, qq⟩
      · refine ⟨_, rfl, rfl, _, rfl, ite2 (fun _ => ?_) (fun _ => ?_)⟩
        · exact ⟨_, rfl, _, rfl, a, _, rfl, .inl ⟨xs, ht, hsh, hlen, hn, qq⟩⟩
        · refine ⟨_, rfl, (by show 1 ≤ sizeLine; decide), fun l hl => ?_⟩
          have sl := same_new hl (.lst [.int 7])
          exact ⟨a, l, rfl, .inl ⟨xs, sl _ _ ht, hsh, hlen, hn, fun H' s' => qq _ (sl.trans s')⟩⟩
theorem once_mem {ns : List Int} {n : Nat} (h : onceN ns n = n) : ∀ j : Nat, j < n → (j : Int) ∈ ns := fun j hj => by
  unfold onceN at h
  have h' : ((List.range n).filter fun j : Nat => decide (ns.count (j : Int) = 1)).length = (List.range n).length := by rw [h, List.length_range]
  have := List.length_filter_eq_length_iff.mp h' j (List.mem_range.mpr hj)
  have := of_decide_eq_true this
  exact List.count_pos_iff.mp (by omega)
abbrev t3 : Cart.BT := .node (.node .nil .nil) (.node .nil .nil)
theorem bl_t3 : bl t3 = [.int 1, .non, .int 1] := rfl
theorem head_not {ns : List Int} {i : Nat} (hl : ns.length = 3) (H : Cart.Head (gn ns) 0 3 i) (hi : i ≠ 1) : eqLs (tl ns) (bl t3) = false := by
  have i2 := H.hi
  have i2 : i < 3 := by omega
  have e : (tl ns)[i]? = some .non := by
    unfold tl
    rw [hl, Cart.trees_node none H, List.map_append, List.getElem?_append_right (by rw [List.length_map, Cart.trees_len]; omega), List.length_map, Cart.trees_len]
    have z : i - (i - 0) = 0 := by omega
    rw [z]
    rfl
  rw [Bool.eq_false_iff]
  intro h
  unfold eqLs at h
  rw [Bool.and_eq_true] at h
  have q := List.all_eq_true.mp h.2 i (List.mem_range.mpr (by rw [tl_len, hl]; exact i2))
  rw [List.getD_eq_getElem?_getD, e, bl_t3] at q
  rcases (show i = 0 ∨ i = 2 by omega) with z | z <;> subst z <;> cases q
theorem hd012 : Cart.Head (gn [0, 1, 2]) 0 3 0 := ⟨by omega, by omega, fun j h1 h2 => by omega, fun j h1 h2 => by
  rcases (show j = 0 ∨ j = 1 ∨ j = 2 by omega) with e | e | e <;> subst e <;> decide⟩
theorem hd021 : Cart.Head (gn [0, 2, 1]) 0 3 0 := ⟨by omega, by omega, fun j h1 h2 => by omega, fun j h1 h2 => by
  rcases (show j = 0 ∨ j = 1 ∨ j = 2 by omega) with e | e | e <;> subst e <;> decide⟩
theorem hd210 : Cart.Head (gn [2, 1, 0]) 0 3 2 := ⟨by omega, by omega, fun j h1 h2 => by
  rcases (show j = 0 ∨ j = 1 by omega) with e | e <;> subst e <;> decide, fun j h1 h2 => by
  rcases (show j = 2 by omega) with e; subst e; decide⟩
def spR_law_no_order (K : PySem.W.Frag) (C : Addr) : Sp := fun vs H Q E => ∃ (cell far : Int), vs = [.int cell, .int far] ∧ 0 ≤ far ∧ ∀ H', Same H H' → E (Xk K "NoOrder") none H'
theorem dR_law_no_order {f C : Addr} {fd : FuncData} (F : Fun K "_law_no_order" "_law_no_order" s_law_no_order f fd) (T : Txt K mg C) (DR_order_number : DefX P w K mg base 46 "order_number" ["tree", "order"] (spR_order_number K C)) : FnOk P w K mg base (CXE P w) 47 f fd ["cell", "far"] (spR_law_no_order K C) := by
  refine F.okX sc_law_no_order (fun vs H Q E h => ?_) (fun cdv A outer s H vs Q E hr h => ?_)
  · obtain ⟨cell, far, rfl, _⟩ := h
    rfl
  · obtain ⟨cell, far, rfl, hf, q⟩ := h
    refine ⟨_, (@pss_cons _ _ _ _ _ (@ps_set _ _ 2 _ _ _ _ sc_law_no_order.nd rfl (by first | exact Or.inl rfl | exact Or.inr rfl) (@pe_lst _ _ _ _ (@pa_cons _ _ _ _ _ (@pe_lst _ _ _ _ pa_nil) (@pa_cons _ _ _ _ _ (@pe_cl _ _ _ _ (.cons .int .nil)) (@pa_cons _ _ _ _ _ (@pe_cl _ _ _ _ (.cons .int (.cons .int (.cons .int .nil)))) (@pa_cons _ _ _ _ _ (@pe_cl _ _ _ _ (.cons .int (.cons .int (.cons .int .nil)))) (@pa_cons _ _ _ _ _ (@pe_cl _ _ _ _ (.cons .int (.cons .int (.cons .int .nil)))) (@pa_cons _ _ _ _ _ (@pe_lst _ _ _ _ (@pa_cons _ _ _ _ _ pe_int (@pa_cons _ _ _ _ _ pe_int (@pa_cons _ _ _ _ _ (pe_op op_add pe_int (pv 1)) pa_nil st_BinOp) st_Constant) st_Constant)) pa_nil st_List) st_List) st_List) st_List) st_List) st_List)) (by kernel_rfl) (by first | exact .inl rfl | exact .inr rfl))
      (@pss_cons _ _ _ _ _ (@ps_set _ _ 2 _ _ _ _ sc_law_no_order.nd rfl (by first | exact Or.inl rfl | exact Or.inr rfl) (pe_op op_cat (pv 2) (@pe_lst _ _ _ _ (@pa_cons _ _ _ _ _ (@pe_cl _ _ _ _ (.cons .int (.cons .int (.cons .int .nil)))) (@pa_cons _ _ _ _ _ (@pe_cl _ _ _ _ (.cons .int (.cons .int (.cons .int (.cons .int .nil))))) (@pa_cons _ _ _ _ _ (@pe_cl _ _ _ _ (.cons .int (.cons .int (.cons .neg .nil)))) (@pa_cons _ _ _ _ _ (@pe_cl _ _ _ _ (.cons .int (.cons .int (.cons .int .nil)))) pa_nil st_List) st_List) st_List) st_List))) (by kernel_rfl) (by first | exact .inl rfl | exact .inr rfl))
      (pss_one (ps_expr (pe_defX DR_order_number pass_body (hr.mono (by decide)) (@pa_cons _ _ _ _ _ (@pe_cl _ _ _ _ (.cons .int (.cons .non (.cons .int .nil)))) (@pa_cons _ _ _ _ _ (pe_ix ix_list (pv 2) (pe_op op_mod (pv 0) pe_int) (fun _ _ => rfl)) pa_nil (by rfl)) st_List)))))), ?_⟩
    refine ⟨(by show 0 ≤ sizeLine; decide), fun l1 h1 => ⟨(by show 1 ≤ sizeLine; decide), fun l2 h2 => ⟨(by show 3 ≤ sizeLine; decide), fun l3 h3 => ⟨(by show 3 ≤ sizeLine; decide), fun l4 h4 => ⟨(by show 3 ≤ sizeLine; decide), fun l5 h5 => ⟨_, rfl, _, _, rfl, rfl, (by show 3 ≤ sizeLine; decide), fun l6 h6 => ⟨(by show 6 ≤ sizeLine; decide), fun k1 hk1 => ?_⟩⟩⟩⟩⟩⟩⟩
    try dsimp only at h1 h2 h3 h4 h5 h6 hk1
    have s1 := same_new h1 (.lst [])
    have s2 := same_new h2 (.lst [.int 0])
    have s3 := same_new h3 (.lst [.int 0, .int 1, .int 2])
    have s4 := same_new h4 (.lst [.int 1, .int 1, .int 0])
    have s5 := same_new h5 (.lst [.int 1, .int 0, .int 3])
    have s6 := same_new h6 (.lst [.int 1, .int 0, .int (3 + far)])
    have s7 := same_new hk1 (.lst [.ref l1, .ref l2, .ref l3, .ref l4, .ref l5, .ref l6])
    try dsimp only [gName, List.set]
    refine ⟨_, rfl, (by show 3 ≤ sizeLine; decide), fun l7 h7 => ⟨(by show 4 ≤ sizeLine; decide), fun l8 h8 => ⟨(by show 3 ≤ sizeLine; decide), fun l9 h9 => ⟨(by show 3 ≤ sizeLine; decide), fun lA hA => ⟨(by show 4 ≤ sizeLine; decide), fun k2 hk2 => ?_⟩⟩⟩⟩⟩
    try dsimp only at h7 h8 h9 hA hk2
    have s8 := same_new h7 (.lst [.int 2, .int 1, .int 0])
    have s9 := same_new h8 (.lst [.int 1, .int 0, .int 2, .int 3])
    have sA := same_new h9 (.lst [.int 1, .int 0, .int (-1)])
    have sA' := same_new hA (.lst [.int 0, .int 2, .int 1])
    have sB := same_new hk2 (.lst [.ref l7, .ref l8, .ref l9, .ref lA])
    have s8B := s8.trans (s9.trans (sA.trans (sA'.trans sB)))
    refine ⟨k1, k2, _, _, rfl, rfl, s8B _ _ upd_same, upd_same, small (by show 6 + 4 ≤ 1000; decide), fun k3 hk3 => ?_⟩
    have sC := same_new hk3 (.lst ([.ref l1, .ref l2, .ref l3, .ref l4, .ref l5, .ref l6] ++ [.ref l7, .ref l8, .ref l9, .ref lA]))
    have s7C := s7.trans (s8B.trans sC)
    have e1 := s7C _ _ (s6 _ _ (s5 _ _ (s4 _ _ (s3 _ _ (s2 _ _ (upd_same (H := H) (a := l1) (o := .lst [])))))))
    have e2 := s7C _ _ (s6 _ _ (s5 _ _ (s4 _ _ (s3 _ _ upd_same))))
    have e3 := s7C _ _ (s6 _ _ (s5 _ _ (s4 _ _ upd_same)))
    have e4 := s7C _ _ (s6 _ _ (s5 _ _ upd_same))
    have e5 := s7C _ _ (s6 _ _ upd_same)
    have e6 := s7C _ _ upd_same
    have e7 := sC _ _ (sB _ _ (sA' _ _ (sA _ _ (s9 _ _ upd_same))))
    have e8 := sC _ _ (sB _ _ (sA' _ _ (sA _ _ upd_same)))
    have e9 := sC _ _ (sB _ _ (sA' _ _ upd_same))
    have eA := sC _ _ (sB _ _ upd_same)
    have sD := s1.trans (s2.trans (s3.trans (s4.trans (s5.trans (s6.trans s7C)))))
    obtain ⟨H3, hH3⟩ := named sC
    have eL : H3 k3 = some (.lst ([.ref l1, .ref l2, .ref l3, .ref l4, .ref l5, .ref l6] ++ [.ref l7, .ref l8, .ref l9, .ref lA])) := by rw [hH3]; exact upd_same
    try dsimp only
    rw [← hH3] at e1 e2 e3 e4 e5 e6 e7 e8 e9 eA sD ⊢
    obtain ⟨z0, z1⟩ := md (c := cell) (k := 10) (by decide)
    obtain ⟨b, ns, hv, ht, hlen, hn⟩ : ∃ b ns, atI ([.ref l1, .ref l2, .ref l3, .ref l4, .ref l5, .ref l6] ++ [.ref l7, .ref l8, .ref l9, .ref lA] : List V) (cell % 10) = some (.ref b) ∧ H3 b = some (.lst (ns.map V.int)) ∧ ns.length ≤ 40 ∧ (ns.length = t3.size ∧ onceN ns t3.size = t3.size → eqLs (tl ns) (bl t3) = false) := by
      generalize cell % 10 = z at z0 z1
      rcases (show z = 0 ∨ z = 1 ∨ z = 2 ∨ z = 3 ∨ z = 4 ∨ z = 5 ∨ z = 6 ∨ z = 7 ∨ z = 8 ∨ z = 9 by omega) with e | e | e | e | e | e | e | e | e | e <;> subst e
      · exact ⟨l1, [], rfl, e1, by decide, fun h => absurd h.1 (by decide)⟩
      · exact ⟨l2, [0], rfl, e2, by decide, fun h => absurd h.1 (by decide)⟩
      · exact ⟨l3, [0, 1, 2], rfl, e3, by decide, fun _ => head_not rfl hd012 (by decide)⟩
      · exact ⟨l4, [1, 1, 0], rfl, e4, by decide, fun h => absurd (once_mem h.2 2 (by decide)) (by decide)⟩
      · exact ⟨l5, [1, 0, 3], rfl, e5, by decide, fun h => absurd (once_mem h.2 2 (by decide)) (by decide)⟩
      · refine ⟨l6, [1, 0, 3 + far], rfl, e6, by show 3 ≤ 40; decide, fun h => ?_⟩
        have := once_mem h.2 2 (by decide)
        rcases List.mem_cons.mp this with z | z
        · exact absurd z (by decide)
        · rcases List.mem_cons.mp z with z | z
          · exact absurd z (by decide)
          · have := List.mem_singleton.mp z
            omega
      · exact ⟨l7, [2, 1, 0], rfl, e7, by decide, fun _ => head_not rfl hd210 (by decide)⟩
      · exact ⟨l8, [1, 0, 2, 3], rfl, e8, by decide, fun h => absurd h.1 (by decide)⟩
      · exact ⟨l9, [1, 0, -1], rfl, e9, by decide, fun h => absurd (once_mem h.2 2 (by decide)) (by decide)⟩
      · exact ⟨lA, [0, 2, 1], rfl, eA, by decide, fun _ => head_not rfl hd021 (by decide)⟩
    try dsimp only [gName, List.set]
    refine ⟨(by show 3 ≤ sizeLine; decide), fun tr htr => ?_⟩
    have sE := same_new htr (.lst [.int 1, .non, .int 1])
    refine ⟨_, rfl, _, rfl, _, _, rfl, rfl, (by show (0 : Int) < 10; decide), k3, _, _, _, rfl, rfl, SqL.of (sE _ _ eL), hv, ?_⟩
    exact ⟨tr, b, rfl, .inr ⟨t3, ns, upd_same, sE _ _ ht, by decide, by decide, hlen, hn, fun H' s' => q _ (sD.trans (sE.trans s'))⟩⟩
def spR_law_no_number (K : PySem.W.Frag) (C : Addr) : Sp := fun vs H Q E => ∃ (cell far : Int), vs = [.int cell, .int far] ∧ 0 ≤ far ∧ ∀ H', Same H H' → E (Xk K "NoNumber") none H'
theorem dR_law_no_number {f C : Addr} {fd : FuncData} (F : Fun K "_law_no_number" "_law_no_number" s_law_no_number f fd) (T : Txt K mg C) (DR_many_trees : DefX P w K mg base 2 "many_trees" ["size"] (spR_many_trees K C)) (DR_tree_at : DefX P w K mg base 2 "tree_at" ["size", "number"] (spR_tree_at K C)) (DR_order_at : DefX P w K mg base 46 "order_at" ["tree", "number"] (spR_order_at K C)) : FnOk P w K mg base (CXE P w) 47 f fd ["cell", "far"] (spR_law_no_number K C) := by
  refine F.okX sc_law_no_number (fun vs H Q E h => ?_) (fun cdv A outer s H vs Q E hr h => ?_)
  · obtain ⟨cell, far, rfl, _⟩ := h
    rfl
  · obtain ⟨cell, far, rfl, hf, q⟩ := h
    have c3 : Cart.cat 3 = 5 := by rw [Cart.cat_tab 3 (by decide)]; rfl
    have c1 : Cart.cat 1 = 1 := by rw [Cart.cat_tab 1 (by decide)]; rfl
    refine ⟨_, (@pss_cons _ _ _ _ _ (@ps_set _ _ 2 _ _ _ _ sc_law_no_number.nd rfl (by first | exact Or.inl rfl | exact Or.inr rfl) (pe_op op_mod (pv 0) pe_int) (by kernel_rfl) (by first | exact .inl rfl | exact .inr rfl))
      (pss_one (ps_if (pt_cmpR op_eq (pv 2) pe_int (nomark _)) (pss_one (ps_expr (pe_defX DR_many_trees pass_body (hr.mono (by decide)) (@pa_cons _ _ _ _ _ (pe_ix ix_list (@pe_lst _ _ _ _ (@pa_cons _ _ _ _ _ pe_int (@pa_cons _ _ _ _ _ (pe_op op_sub (pe_un un_neg pe_int) (pv 1)) (@pa_cons _ _ _ _ _ pe_int (@pa_cons _ _ _ _ _ (pe_op op_add pe_int (pv 1)) pa_nil st_BinOp) st_Constant) st_BinOp) st_Constant)) (pe_op op_mod (pe_op op_fdiv (pv 0) pe_int) pe_int) (fun _ _ => rfl)) pa_nil (by rfl))))) (pss_one (ps_if (pt_cmpR op_eq (pv 2) pe_int (nomark _)) (@pss_cons _ _ _ _ _ (@ps_set _ _ 3 _ _ _ _ sc_law_no_number.nd rfl (by first | exact Or.inl rfl | exact Or.inr rfl) (@pe_lst _ _ _ _ (@pa_cons _ _ _ _ _ (@pe_ct _ _ _ _ _ (.cons .int (.cons .int .nil))) (@pa_cons _ _ _ _ _ (@pe_tup _ _ _ _ _ (@pa_cons _ _ _ _ _ pe_int (@pa_cons _ _ _ _ _ (pe_op op_add pe_int (pv 1)) pa_nil st_BinOp) st_Constant)) (@pa_cons _ _ _ _ _ (@pe_tup _ _ _ _ _ (@pa_cons _ _ _ _ _ pe_int (@pa_cons _ _ _ _ _ (pe_op op_sub (pe_un un_neg pe_int) (pv 1)) pa_nil st_BinOp) st_Constant)) (@pa_cons _ _ _ _ _ (@pe_ct _ _ _ _ _ (.cons .int (.cons .int .nil))) (@pa_cons _ _ _ _ _ (@pe_tup _ _ _ _ _ (@pa_cons _ _ _ _ _ (pe_op op_add pe_int (pv 1)) (@pa_cons _ _ _ _ _ pe_int pa_nil st_Constant) st_BinOp)) (@pa_cons _ _ _ _ _ (@pe_ct _ _ _ _ _ (.cons .int (.cons .int .nil))) pa_nil st_Tuple) st_Tuple) st_Tuple) st_Tuple) st_Tuple) st_Tuple)) (by kernel_rfl) (by first | exact .inl rfl | exact .inr rfl))
      (@pss_cons _ _ _ _ _ (@ps_set _ _ 4 _ _ _ _ sc_law_no_number.nd rfl (by first | exact Or.inl rfl | exact Or.inr rfl) (pe_ix ix_list (pv 3) (pe_op op_mod (pe_op op_fdiv (pv 0) pe_int) pe_int) (fun _ _ => rfl)) (by kernel_rfl) (by first | exact .inl rfl | exact .inr rfl))
      (pss_one (ps_expr (pe_defX DR_tree_at pass_body (hr.mono (by decide)) (@pa_cons _ _ _ _ _ (pe_ix ix_tup (pv 4) pe_int (fun _ _ => rfl)) (@pa_cons _ _ _ _ _ (pe_ix ix_tup (pv 4) pe_int (fun _ _ => rfl)) pa_nil (by rfl)) (by rfl))))))) (pss_one (ps_expr (pe_defX DR_order_at pass_body (hr.mono (by decide)) (@pa_cons _ _ _ _ _ (@pe_cl _ _ _ _ (.cons .int (.cons .non (.cons .int .nil)))) (@pa_cons _ _ _ _ _ (pe_ix ix_list (@pe_lst _ _ _ _ (@pa_cons _ _ _ _ _ pe_int (@pa_cons _ _ _ _ _ (pe_op op_add pe_int (pv 1)) (@pa_cons _ _ _ _ _ (pe_op op_sub (pe_un un_neg pe_int) (pv 1)) pa_nil st_BinOp) st_BinOp) st_Constant)) (pe_op op_mod (pe_op op_fdiv (pv 0) pe_int) pe_int) (fun _ _ => rfl)) pa_nil (by rfl)) st_List))))))))), ?_⟩
    refine ⟨_, rfl, _, _, rfl, rfl, (by show (0 : Int) < 3; decide), ?_⟩
    refine ⟨_, rfl, rfl, _, rfl, ite2 (fun _ => ?_) (fun _ => ?_)⟩
    · obtain ⟨z0, z1⟩ := md (c := cell / 3) (k := 4) (by decide)
      obtain ⟨v, hv, hb⟩ : ∃ v, atI ([.int 0, .int (-1 - far), .int 41, .int (41 + far)] : List V) (cell / 3 % 4) = some (.int v) ∧ ¬ (1 ≤ v ∧ v ≤ 40) := by
        generalize cell / 3 % 4 = z at z0 z1
        rcases (show z = 0 ∨ z = 1 ∨ z = 2 ∨ z = 3 by omega) with e | e | e | e <;> subst e <;> exact ⟨_, rfl, by omega⟩
      refine ⟨_, rfl, _, rfl, _, _, rfl, rfl, _, rfl, _, _, rfl, rfl, (by show 4 ≤ sizeLine; decide), fun l hl => ?_⟩
      have s0 := same_new hl (.lst [.int 0, .int (-1 - far), .int 41, .int (41 + far)])
      exact ⟨_, rfl, _, _, rfl, rfl, ⟨by omega, by omega⟩, _, _, rfl, rfl, (by show (0 : Int) < 4; decide), l, _, _, _, rfl, rfl, SqL.of upd_same, hv, v, rfl, hb, q _ s0⟩
    · refine ⟨_, rfl, rfl, _, rfl, ite2 (fun _ => ?_) (fun _ => ?_)⟩
      · have sz : 2 ≤ sizeLine := by decide
        refine ⟨sz, fun t1 h1 => ⟨_, rfl, _, _, rfl, rfl, sz, fun t2 h2 => ⟨_, rfl, _, rfl, _, _, rfl, rfl, sz, fun t4 h4 => ⟨sz, fun t5 h5 => ⟨_, rfl, _, _, rfl, rfl, sz, fun t6 h6 => ⟨sz, fun t7 h7 => ⟨(by show 6 ≤ sizeLine; decide), fun l hl => ?_⟩⟩⟩⟩⟩⟩⟩
        try dsimp only at h2 h4 h5 h6 h7 hl
        have s1 := same_new h1 (.tup [.int 3, .int 5])
        have s2 := same_new h2 (.tup [.int 3, .int (5 + far)])
        have s4 := same_new h4 (.tup [.int 3, .int (-1 - far)])
        have s5 := same_new h5 (.tup [.int 0, .int 0])
        have s6 := same_new h6 (.tup [.int (41 + far), .int 0])
        have s7 := same_new h7 (.tup [.int 1, .int 1])
        have s8 := same_new hl (.lst [.ref t1, .ref t2, .ref t4, .ref t5, .ref t6, .ref t7])
        have e1 := s8 _ _ (s7 _ _ (s6 _ _ (s5 _ _ (s4 _ _ (s2 _ _ (upd_same (H := H) (a := t1) (o := .tup [.int 3, .int 5])))))))
        have e2 := s8 _ _ (s7 _ _ (s6 _ _ (s5 _ _ (s4 _ _ upd_same))))
        have e4 := s8 _ _ (s7 _ _ (s6 _ _ (s5 _ _ upd_same)))
        have e5 := s8 _ _ (s7 _ _ (s6 _ _ upd_same))
        have e6 := s8 _ _ (s7 _ _ upd_same)
        have e7 := s8 _ _ upd_same
        have sD := s1.trans (s2.trans (s4.trans (s5.trans (s6.trans (s7.trans s8)))))
        obtain ⟨H3, hH3⟩ := named s8
        have eL : H3 l = some (.lst [.ref t1, .ref t2, .ref t4, .ref t5, .ref t6, .ref t7]) := by rw [hH3]; exact upd_same
        try dsimp only
        rw [← hH3] at e1 e2 e4 e5 e6 e7 sD ⊢
        obtain ⟨z0, z1⟩ := md (c := cell / 3) (k := 6) (by decide)
        obtain ⟨t, a, b, hv, ht, hb⟩ : ∃ t a b, atI ([.ref t1, .ref t2, .ref t4, .ref t5, .ref t6, .ref t7] : List V) (cell / 3 % 6) = some (.ref t) ∧ H3 t = some (.tup [.int a, .int b]) ∧ (1 ≤ a ∧ a ≤ 40 → ¬ (0 ≤ b ∧ b < ((Cart.cat a.toNat : Nat) : Int))) := by
          generalize cell / 3 % 6 = z at z0 z1
          rcases (show z = 0 ∨ z = 1 ∨ z = 2 ∨ z = 3 ∨ z = 4 ∨ z = 5 by omega) with e | e | e | e | e | e <;> subst e
          · exact ⟨t1, _, _, rfl, e1, fun _ => by show ¬ (0 ≤ (5 : Int) ∧ (5 : Int) < ((Cart.cat 3 : Nat) : Int)); rw [c3]; omega⟩
          · exact ⟨t2, _, _, rfl, e2, fun _ => by show ¬ (0 ≤ (5 + far : Int) ∧ (5 + far : Int) < ((Cart.cat 3 : Nat) : Int)); rw [c3]; omega⟩
          · exact ⟨t4, _, _, rfl, e4, fun _ => by omega⟩
          · exact ⟨t5, _, _, rfl, e5, fun h => by omega⟩
          · exact ⟨t6, _, _, rfl, e6, fun h => by omega⟩
          · exact ⟨t7, _, _, rfl, e7, fun _ => by show ¬ (0 ≤ (1 : Int) ∧ (1 : Int) < ((Cart.cat 1 : Nat) : Int)); rw [c1]; omega⟩
        try dsimp only [gName, List.set]
        refine ⟨_, rfl, _, rfl, _, _, rfl, rfl, ⟨by omega, by omega⟩, _, _, rfl, rfl, (by show (0 : Int) < 6; decide), l, _, _, _, rfl, rfl, SqL.of eL, hv, ?_⟩
        try dsimp only [gName, List.set]
        exact ⟨_, rfl, t, _, _, _, rfl, rfl, SqT.of ht, rfl, _, rfl, t, _, _, _, rfl, rfl, SqT.of ht, rfl, a, b, rfl, hb, fun H' s' => q _ (sD.trans s')⟩
      · refine ⟨(by show 3 ≤ sizeLine; decide), fun tr htr => ?_⟩
        have s0 := same_new htr (.lst [.int 1, .non, .int 1])
        obtain ⟨z0, z1⟩ := md (c := cell / 3) (k := 3) (by decide)
        obtain ⟨v, hv, hb⟩ : ∃ v, atI ([.int 2, .int (2 + far), .int (-1 - far)] : List V) (cell / 3 % 3) = some (.int v) ∧ ¬ (0 ≤ v ∧ v < ((Cart.many t3 : Nat) : Int)) := by
          have m2 : ((Cart.many t3 : Nat) : Int) = 2 := rfl
          rw [m2]
          generalize cell / 3 % 3 = z at z0 z1
          rcases (show z = 0 ∨ z = 1 ∨ z = 2 by omega) with e | e | e <;> subst e <;> exact ⟨_, rfl, by omega⟩
        refine ⟨_, rfl, _, _, rfl, rfl, _, rfl, _, rfl, _, _, rfl, rfl, (by show 3 ≤ sizeLine; decide), fun l hl => ?_⟩
        have s1 := same_new hl (.lst [.int 2, .int (2 + far), .int (-1 - far)])
        exact ⟨_, rfl, _, _, rfl, rfl, ⟨by omega, by omega⟩, _, _, rfl, rfl, (by show (0 : Int) < 3; decide), l, _, _, _, rfl, rfl, SqL.of upd_same, hv, tr, v, rfl, .inr ⟨t3, s1 _ _ upd_same, by decide, by decide, hb, fun H' s' => q _ (s0.trans (s1.trans s'))⟩⟩
def spR_law_no_sky (K : PySem.W.Frag) (C : Addr) : Sp := fun vs H Q E => ∃ (cell far : Int), vs = [.int cell, .int far] ∧ 0 ≤ far ∧ ∀ H', Same H H' → E (Xk K "NoSky") none H'
theorem dR_law_no_sky {f C : Addr} {fd : FuncData} (F : Fun K "_law_no_sky" "_law_no_sky" s_law_no_sky f fd) (T : Txt K mg C) (D_Row : DefC P w K mg base 2 C "Row" ["self", "numbers"] (sp_Row_init K C)) (DR_widest : DefX P w K mg base 3 "widest" ["row"] (spR_widest K C)) (DR_water : DefX P w K mg base 3 "water" ["row"] (spR_water K C)) : FnOk P w K mg base (CXE P w) 4 f fd ["cell", "far"] (spR_law_no_sky K C) := by
  refine F.okX sc_law_no_sky (fun vs H Q E h => ?_) (fun cdv A outer s H vs Q E hr h => ?_)
  · obtain ⟨cell, far, rfl, _⟩ := h
    rfl
  · obtain ⟨cell, far, rfl, hf, q⟩ := h
    refine ⟨_, (@pss_cons _ _ _ _ _ (@ps_set _ _ 2 _ _ _ _ sc_law_no_sky.nd rfl (by first | exact Or.inl rfl | exact Or.inr rfl) (@pe_lst _ _ _ _ (@pa_cons _ _ _ _ _ (@pe_lst _ _ _ _ (@pa_cons _ _ _ _ _ (pe_op op_sub (pe_un un_neg pe_int) (pv 1)) pa_nil st_BinOp)) (@pa_cons _ _ _ _ _ (@pe_cl _ _ _ _ (.cons .int (.cons .int (.cons .neg .nil)))) (@pa_cons _ _ _ _ _ (@pe_lst _ _ _ _ (@pa_cons _ _ _ _ _ (pe_op op_sub (pe_un un_neg pe_int) (pv 1)) (@pa_cons _ _ _ _ _ pe_int pa_nil st_Constant) st_BinOp)) (@pa_cons _ _ _ _ _ (@pe_cl _ _ _ _ (.cons .int (.cons .neg (.cons .int .nil)))) pa_nil st_List) st_List) st_List) st_List)) (by kernel_rfl) (by first | exact .inl rfl | exact .inr rfl))
      (pss_one (ps_if (pt_cmpR op_eq (pe_op op_mod (pv 0) pe_int) pe_int (nomark _)) (pss_one (ps_expr (pe_defX DR_widest pass_body (hr.mono (by decide)) (@pa_cons _ _ _ _ _ (pe_Row D_Row (hr.mono (by decide)) (@pa_cons _ _ _ _ _ (pe_ix ix_list (pv 2) (pe_op op_mod (pe_op op_fdiv (pv 0) pe_int) pe_int) (fun _ _ => rfl)) pa_nil (by rfl))) pa_nil (by rfl))))) (pss_one (ps_if (pt_cmpR op_eq (pe_op op_mod (pv 0) pe_int) pe_int (nomark _)) (pss_one (ps_expr (pe_defX DR_water pass_body (hr.mono (by decide)) (@pa_cons _ _ _ _ _ (pe_Row D_Row (hr.mono (by decide)) (@pa_cons _ _ _ _ _ (pe_ix ix_list (pv 2) (pe_op op_mod (pe_op op_fdiv (pv 0) pe_int) pe_int) (fun _ _ => rfl)) pa_nil (by rfl))) pa_nil (by rfl))))) (pss_one (ps_expr (pe_defX DR_widest pass_body (hr.mono (by decide)) (@pa_cons _ _ _ _ _ (pe_Row D_Row (hr.mono (by decide)) (@pa_cons _ _ _ _ _ (@pe_lst _ _ _ _ pa_nil) pa_nil st_List)) pa_nil (by rfl)))))))))), ?_⟩
    refine ⟨_, rfl, _, rfl, _, _, rfl, rfl, (by show 1 ≤ sizeLine; decide), fun l1 h1 => ⟨(by show 3 ≤ sizeLine; decide), fun l2 h2 => ⟨_, rfl, _, rfl, _, _, rfl, rfl, (by show 2 ≤ sizeLine; decide), fun l3 h3 => ⟨(by show 3 ≤ sizeLine; decide), fun l4 h4 => ⟨(by show 4 ≤ sizeLine; decide), fun k hk => ?_⟩⟩⟩⟩⟩
    try dsimp only at h2 h3 h4 hk
    have s1 := same_new h1 (.lst [.int (-1 - far)])
    have s2 := same_new h2 (.lst [.int 3, .int 2, .int (-1)])
    have s3 := same_new h3 (.lst [.int (-1 - far), .int 5])
    have s4 := same_new h4 (.lst [.int 0, .int (-7), .int 0])
    have s5 := same_new hk (.lst [.ref l1, .ref l2, .ref l3, .ref l4])
    have e1 := s5 _ _ (s4 _ _ (s3 _ _ (s2 _ _ (upd_same (H := H) (a := l1) (o := .lst [.int (-1 - far)])))))
    have e2 := s5 _ _ (s4 _ _ (s3 _ _ upd_same))
    have e3 := s5 _ _ (s4 _ _ upd_same)
    have e4 := s5 _ _ upd_same
    have sD := s1.trans (s2.trans (s3.trans (s4.trans s5)))
    obtain ⟨H3, hH3⟩ := named s5
    have eL : H3 k = some (.lst [.ref l1, .ref l2, .ref l3, .ref l4]) := by rw [hH3]; exact upd_same
    try dsimp only
    rw [← hH3] at e1 e2 e3 e4 sD ⊢
    obtain ⟨z0, z1⟩ := md (c := cell / 3) (k := 4) (by decide)
    obtain ⟨b, ns, hv, ht, hlen, hn⟩ : ∃ (b : Addr) (ns : List Int), atI ([.ref l1, .ref l2, .ref l3, .ref l4] : List V) (cell / 3 % 4) = some (.ref b) ∧ H3 b = some (.lst (ns.map V.int)) ∧ ns.length ≤ 40 ∧ ∃ x ∈ ns, x < 0 := by
      generalize cell / 3 % 4 = z at z0 z1
      rcases (show z = 0 ∨ z = 1 ∨ z = 2 ∨ z = 3 by omega) with e | e | e | e <;> subst e
      · exact ⟨l1, [-1 - far], rfl, e1, by show 1 ≤ 40; decide, _, .head _, by omega⟩
      · exact ⟨l2, [3, 2, -1], rfl, e2, by decide, _, .tail _ (.tail _ (.head _)), by decide⟩
      · exact ⟨l3, [-1 - far, 5], rfl, e3, by show 2 ≤ 40; decide, _, .head _, by omega⟩
      · exact ⟨l4, [0, -7, 0], rfl, e4, by decide, _, .tail _ (.head _), by decide⟩
    try dsimp only [gName, List.set]
    have qq : ∀ H', Same H3 H' → E (Xk K "NoSky") none H' := fun H' s' => q _ (sD.trans s')
    refine ⟨_, rfl, _, _, rfl, rfl, (by show (0 : Int) < 3; decide), rfl, _, rfl, ite2 (fun _ => ?_) (fun _ => ?_)⟩
    · refine ⟨_, rfl, _, rfl, _, _, rfl, rfl, ⟨by omega, by omega⟩, _, _, rfl, rfl, (by show (0 : Int) < 4; decide), k, _, _, _, rfl, rfl, SqL.of eL, hv, b, ns, rfl, SqL.of ht, hlen, fun x d H' _ _ s' R' => ?_⟩
      exact ⟨x, d, ns, rfl, R', .inl hn, fun H2 s2 => qq _ (s'.trans s2)⟩
    · refine ⟨_, rfl, _, _, rfl, rfl, (by show (0 : Int) < 3; decide), rfl, _, rfl, ite2 (fun _ => ?_) (fun _ => ?_)⟩
      · refine ⟨_, rfl, _, rfl, _, _, rfl, rfl, ⟨by omega, by omega⟩, _, _, rfl, rfl, (by show (0 : Int) < 4; decide), k, _, _, _, rfl, rfl, SqL.of eL, hv, b, ns, rfl, SqL.of ht, hlen, fun x d H' _ _ s' R' => ?_⟩
        exact ⟨x, d, ns, rfl, R', hn, fun H2 s2 => qq _ (s'.trans s2)⟩
      · refine ⟨(by show 0 ≤ sizeLine; decide), fun l hl => ?_⟩
        have sl := same_new hl (.lst [])
        refine ⟨l, [], rfl, SqL.of upd_same, by decide, fun x d H' _ _ s' R' => ?_⟩
        exact ⟨x, d, [], rfl, R', .inr rfl, fun H2 s2 => qq _ (sl.trans (s'.trans s2))⟩
def spR_law_done (K : PySem.W.Frag) (C : Addr) : Sp := fun vs H Q E => ∃ (way cell far : Int) (p d p' d' : Addr) (ns ms : List Int) (i : Nat), vs = [.int way, .int cell, .int far, .ref p, .ref p'] ∧ RowAt C H p d ns ∧ RowAt C H p' d' ms ∧ ns.length = 3 ∧ ms.length = 40 ∧ 0 ≤ far ∧ i < 7 ∧ way = (i : Int) ∧ ∀ H', Same H H' → E (Xk K (xnm i)) none H'
theorem dR_law_done {f C : Addr} {fd : FuncData} (F : Fun K "_law_done" "_law_done" s_law_done f fd) (T : Txt K mg C) (DR_law_no_row : DefX P w K mg base 5 "_law_no_row" ["row", "full", "cell"] (spR_law_no_row K C)) (DR_law_no_place : DefX P w K mg base 3 "_law_no_place" ["row", "cell", "far"] (spR_law_no_place K C)) (DR_law_no_stretch : DefX P w K mg base 3 "_law_no_stretch" ["row", "cell", "far"] (spR_law_no_stretch K C)) (DR_law_no_tree : DefX P w K mg base 47 "_law_no_tree" ["cell", "far"] (spR_law_no_tree K C)) (DR_law_no_order : DefX P w K mg base 47 "_law_no_order" ["cell", "far"] (spR_law_no_order K C)) (DR_law_no_number : DefX P w K mg base 47 "_law_no_number" ["cell", "far"] (spR_law_no_number K C)) (DR_law_no_sky : DefX P w K mg base 4 "_law_no_sky" ["cell", "far"] (spR_law_no_sky K C)) : FnOk P w K mg base (CXE P w) 48 f fd ["way", "cell", "far", "row", "full"] (spR_law_done K C) := by
  refine F.okX sc_law_done (fun vs H Q E h => ?_) (fun cdv A outer s H vs Q E hr h => ?_)
  · obtain ⟨way, cell, far, p, d, p', d', ns, ms, i, rfl, _⟩ := h
    rfl
  · obtain ⟨way, cell, far, p, d, p', d', ns, ms, i, rfl, R, R', h3, h4, hf, hi, hw, q⟩ := h
    refine ⟨_, (pss_one (ps_if (pt_cmpR op_eq (pv 0) pe_int (nomark _)) (pss_one (ps_expr (pe_defX DR_law_no_row pass_body (hr.mono (by decide)) (pa_cons (pv 3) (pa_cons (pv 4) (pa_cons (pv 1) pa_nil)))))) (pss_one (ps_if (pt_cmpR op_eq (pv 0) pe_int (nomark _)) (pss_one (ps_expr (pe_defX DR_law_no_place pass_body (hr.mono (by decide)) (pa_cons (pv 3) (pa_cons (pv 1) (pa_cons (pv 2) pa_nil)))))) (pss_one (ps_if (pt_cmpR op_eq (pv 0) pe_int (nomark _)) (pss_one (ps_expr (pe_defX DR_law_no_stretch pass_body (hr.mono (by decide)) (pa_cons (pv 3) (pa_cons (pv 1) (pa_cons (pv 2) pa_nil)))))) (pss_one (ps_if (pt_cmpR op_eq (pv 0) pe_int (nomark _)) (pss_one (ps_expr (pe_defX DR_law_no_tree pass_body (hr.mono (by decide)) (pa_cons (pv 1) (pa_cons (pv 2) pa_nil))))) (pss_one (ps_if (pt_cmpR op_eq (pv 0) pe_int (nomark _)) (pss_one (ps_expr (pe_defX DR_law_no_order pass_body (hr.mono (by decide)) (pa_cons (pv 1) (pa_cons (pv 2) pa_nil))))) (pss_one (ps_if (pt_cmpR op_eq (pv 0) pe_int (nomark _)) (pss_one (ps_expr (pe_defX DR_law_no_number pass_body (hr.mono (by decide)) (pa_cons (pv 1) (pa_cons (pv 2) pa_nil))))) (pss_one (ps_expr (pe_defX DR_law_no_sky pass_body (hr.mono (by decide)) (pa_cons (pv 1) (pa_cons (pv 2) pa_nil))))))))))))))))), ?_⟩
    have key : ∀ k : Nat, decide (V.int way = V.int (k : Int)) = true → i = k := fun k c => by
      have := V.int.inj (of_decide_eq_true c)
      omega
    have nkey : ∀ k : Nat, ¬ decide (V.int way = V.int (k : Int)) = true → i ≠ k := fun k c z => c (decide_eq_true (by rw [hw, z]))
    refine ⟨_, rfl, rfl, _, rfl, ite2 (fun c => ?_) (fun c0 => ?_)⟩
    · have e := key 0 c
      subst e
      exact ⟨_, rfl, _, rfl, _, rfl, p, d, p', d', ns, ms, cell, rfl, R, R', (by omega), h4, q⟩
    refine ⟨_, rfl, rfl, _, rfl, ite2 (fun c => ?_) (fun c1 => ?_)⟩
    · have e := key 1 c
      subst e
      exact ⟨_, rfl, _, rfl, _, rfl, p, d, ns, cell, far, rfl, R, h3, hf, q⟩
    refine ⟨_, rfl, rfl, _, rfl, ite2 (fun c => ?_) (fun c2 => ?_)⟩
    · have e := key 2 c
      subst e
      exact ⟨_, rfl, _, rfl, _, rfl, p, d, ns, cell, far, rfl, R, h3, hf, q⟩
    refine ⟨_, rfl, rfl, _, rfl, ite2 (fun c => ?_) (fun c3 => ?_)⟩
    · have e := key 3 c
      subst e
      exact ⟨_, rfl, _, rfl, cell, far, rfl, hf, q⟩
    refine ⟨_, rfl, rfl, _, rfl, ite2 (fun c => ?_) (fun c4 => ?_)⟩
    · have e := key 4 c
      subst e
      exact ⟨_, rfl, _, rfl, cell, far, rfl, hf, q⟩
    refine ⟨_, rfl, rfl, _, rfl, ite2 (fun c => ?_) (fun c5 => ?_)⟩
    · have e := key 5 c
      subst e
      exact ⟨_, rfl, _, rfl, cell, far, rfl, hf, q⟩
    have n0 := nkey 0 c0
    have n1 := nkey 1 c1
    have n2 := nkey 2 c2
    have n3 := nkey 3 c3
    have n4 := nkey 4 c4
    have n5 := nkey 5 c5
    have e : i = 6 := by omega
    subst e
    exact ⟨_, rfl, _, rfl, cell, far, rfl, hf, q⟩
def toldL (i : Nat) : List V := (List.range 8).map fun j => .bl (decide (j = i) || decide (j = 7))
theorem toldL_eq (i : Nat) (hi : i < 7) : toldL i = [.bl (decide (i = 0)), .bl (decide (i = 1)), .bl (decide (i = 2)), .bl (decide (i = 3))] ++ [.bl (decide (i = 4)), .bl (decide (i = 5)), .bl (decide (i = 6)), .bl true] := by
  rcases (show i = 0 ∨ i = 1 ∨ i = 2 ∨ i = 3 ∨ i = 4 ∨ i = 5 ∨ i = 6 by omega) with e | e | e | e | e | e | e <;> subst e <;> rfl
def sp_law_which (K : PySem.W.Frag) (C : Addr) : Sp := fun vs H Q _ => ∃ (a : Addr) (i : Nat), vs = [.ref a] ∧ i < 7 ∧ H a = some (XA a (.ref (adr K (xnm i)))) ∧ ∀ (l : Addr) (H' : Hp), Same H H' → H l = none → H' l = some (.lst (toldL i)) → Q (.ref l) H'
theorem dU_law_which {f C : Addr} {fd : FuncData} (F : Fun K "_law_which" "_law_which" s_law_which f fd) (T : Txt K mg C) : FnOkM P w K mg base 1 f fd ["e"] (sp_law_which K C) := by
  refine F.okM sc_law_which (fun vs H Q E h => ?_) (fun cdv A e outer s H vs Q hr h => ?_)
  · obtain ⟨a, i, rfl, _⟩ := h
    rfl
  · obtain ⟨a, i, rfl, hi, ha, q⟩ := h
    refine ⟨_, (pss_cons (ps_set (i := 1) sc_law_which.nd rfl (by first | exact Or.inl rfl | exact Or.inr rfl) (pe_lst (pa_cons (pe_callB call_isiX rfl T.z_isinstance PyProof.Rows.boot_isinstance (pa_cons (pv 0) (pa_cons (pe_glob (v := .ref (adr K "NoRow")) rfl T.e_NoRow.mg rfl) pa_nil))) (pa_cons (pe_callB call_isiX rfl T.z_isinstance PyProof.Rows.boot_isinstance (pa_cons (pv 0) (pa_cons (pe_glob (v := .ref (adr K "NoPlace")) rfl T.e_NoPlace.mg rfl) pa_nil))) (pa_cons (pe_callB call_isiX rfl T.z_isinstance PyProof.Rows.boot_isinstance (pa_cons (pv 0) (pa_cons (pe_glob (v := .ref (adr K "NoStretch")) rfl T.e_NoStretch.mg rfl) pa_nil))) (pa_cons (pe_callB call_isiX rfl T.z_isinstance PyProof.Rows.boot_isinstance (pa_cons (pv 0) (pa_cons (pe_glob (v := .ref (adr K "NoTree")) rfl T.e_NoTree.mg rfl) pa_nil))) pa_nil))))))
      (pss_one (ps_ret (pe_op op_cat (pv 1) (pe_lst (pa_cons (pe_callB call_isiX rfl T.z_isinstance PyProof.Rows.boot_isinstance (pa_cons (pv 0) (pa_cons (pe_glob (v := .ref (adr K "NoOrder")) rfl T.e_NoOrder.mg rfl) pa_nil))) (pa_cons (pe_callB call_isiX rfl T.z_isinstance PyProof.Rows.boot_isinstance (pa_cons (pv 0) (pa_cons (pe_glob (v := .ref (adr K "NoNumber")) rfl T.e_NoNumber.mg rfl) pa_nil))) (pa_cons (pe_callB call_isiX rfl T.z_isinstance PyProof.Rows.boot_isinstance (pa_cons (pv 0) (pa_cons (pe_glob (v := .ref (adr K "NoSky")) rfl T.e_NoSky.mg rfl) pa_nil))) (pa_cons (pe_callB call_isiX rfl T.z_isinstance PyProof.Rows.boot_isinstance (pa_cons (pv 0) (pa_cons (pe_bltn (v := .ty "ValueError") rfl T.z_ValueError boot_VE rfl) pa_nil))) pa_nil))))))))), ?_⟩
    have C := T.x.cls i hi
    have kit := fun j hj => T.x.kit i j hi hj
    refine ⟨_, rfl, a, _, _, Xk K "NoRow", _, rfl, (fun u h => h), ha, C, kit 0 (by decide), ?_⟩
    refine ⟨_, rfl, a, _, _, Xk K "NoPlace", _, rfl, (fun u h => h), ha, C, kit 1 (by decide), ?_⟩
    refine ⟨_, rfl, a, _, _, Xk K "NoStretch", _, rfl, (fun u h => h), ha, C, kit 2 (by decide), ?_⟩
    refine ⟨_, rfl, a, _, _, Xk K "NoTree", _, rfl, (fun u h => h), ha, C, kit 3 (by decide), ?_⟩
    refine ⟨(by show 4 ≤ sizeLine; decide), fun l hl => ?_⟩
    have s1 := same_new hl (.lst [.bl (decide (i = 0)), .bl (decide (i = 1)), .bl (decide (i = 2)), .bl (decide (i = 3))])
    have ha1 := s1 _ _ ha
    try dsimp only [gName, List.set]
    refine ⟨_, rfl, ?_⟩
    refine ⟨_, rfl, a, _, _, Xk K "NoOrder", _, rfl, (fun u h => h), ha1, C, kit 4 (by decide), ?_⟩
    refine ⟨_, rfl, a, _, _, Xk K "NoNumber", _, rfl, (fun u h => h), ha1, C, kit 5 (by decide), ?_⟩
    refine ⟨_, rfl, a, _, _, Xk K "NoSky", _, rfl, (fun u h => h), ha1, C, kit 6 (by decide), ?_⟩
    refine ⟨_, rfl, a, _, _, .type "ValueError", _, rfl, (fun u h => h), ha1, C, T.x.val i hi, ?_⟩
    refine ⟨(by show 4 ≤ sizeLine; decide), fun l2 hl2 => ?_⟩
    have s2 := same_new hl2 (.lst [.bl (decide (i = 4)), .bl (decide (i = 5)), .bl (decide (i = 6)), .bl true])
    refine ⟨l, l2, _, _, rfl, rfl, s2 _ _ upd_same, upd_same, small (by show 4 + 4 ≤ 1000; decide), fun l3 hl3 => ?_⟩
    refine q l3 _ (s1.trans (s2.trans (same_new hl3 _))) (s1.free (s2.free hl3)) ?_
    rw [upd_same, toldL_eq i hi]
def sp_law (K : PySem.W.Frag) : Sp := fun vs H Q _ => ∃ (a : Addr) (ns : List Int), vs = [.ref a] ∧ Scr K H a ns ∧ ns.length ≤ 63 ∧ ∀ H', Q (.bl true) H'
theorem law_start {K : PySem.W.Frag} {H : Hp} {a : Addr} {ns : List Int} (hl : ns.length ≤ 63) (ho : Only H) (hS : SqL K H a (ns.map V.int)) : sp_law K [.ref a] H (fun v _ => v = .bl true) fun _ _ _ => False :=
  ⟨a, ns, rfl, Scr.of ho hS, hl, fun _ => rfl⟩
def fullL : List Int := (List.replicate 20 [(1 : Int), 2]).flatten
theorem fullL_V : (List.replicate 20 ([.int 1, .int 2] : List V)).flatten = fullL.map V.int := by decide +kernel
theorem told_flat (i : Nat) : (toldL i).all flatV = true := by
  unfold toldL
  rw [List.all_map, List.all_eq_true]
  intro x _
  rfl
theorem d_law {f C : Addr} {fd : FuncData} (F : Fun K "law" "law" s_law f fd) (T : Txt K mg C) (D_law_cell_at : Def P w K mg base 1 "_law_cell_at" ["script", "k"] (sp_law_cell_at K C)) (D_Row : DefC P w K mg base 2 C "Row" ["self", "numbers"] (sp_Row_init K C)) (D_Row_numbers : DefM P w K mg base 1 C "numbers" ["self"] (sp_Row_numbers K C)) (DR_law_done : DefX P w K mg base 48 "_law_done" ["way", "cell", "far", "row", "full"] (spR_law_done K C)) (DU_law_which : DefU P w K mg base 1 "_law_which" ["e"] (sp_law_which K C)) : FnOk P w K mg base CX0 49 f fd ["script"] (sp_law K) := by
  refine F.ok sc_law (fun vs H Q E h => ?_) (fun cdv A outer s H vs Q E hr h => ?_)
  · obtain ⟨a, ns, rfl, _⟩ := h
    rfl
  · obtain ⟨a, ns, rfl, hS, hlen, q⟩ := h
    refine ⟨_, (pss_cons (ps_set (i := 1) sc_law.nd rfl (by first | exact Or.inl rfl | exact Or.inr rfl) (pe_op op_mod (pe_def D_law_cell_at (hr.mono (by decide)) (pa_cons (pv 0) (pa_cons pe_int pa_nil))) pe_int))
      (pss_cons (ps_set (i := 2) sc_law.nd rfl (by first | exact Or.inl rfl | exact Or.inr rfl) (pe_op op_mod (pe_def D_law_cell_at (hr.mono (by decide)) (pa_cons (pv 0) (pa_cons pe_int pa_nil))) (pe_op op_pow pe_int pe_int)))
      (pss_cons (ps_set (i := 3) sc_law.nd rfl (by first | exact Or.inl rfl | exact Or.inr rfl) (pe_Row D_Row (hr.mono (by decide)) (pa_cons (pe_lst (pa_cons pe_int (pa_cons pe_int (pa_cons pe_int pa_nil)))) pa_nil)))
      (pss_cons (ps_set (i := 4) sc_law.nd rfl (by first | exact Or.inl rfl | exact Or.inr rfl) (pe_Row D_Row (hr.mono (by decide)) (pa_cons (pe_op op_rep (pe_lst (pa_cons pe_int (pa_cons pe_int pa_nil))) pe_int) pa_nil)))
      (pss_cons (ps_set (i := 5) sc_law.nd rfl (by first | exact Or.inl rfl | exact Or.inr rfl) (pe_lst pa_nil))
      (pss_cons (ps_tryAs (i := 6) (EC := fun cls => ∃ i, i < 7 ∧ cls = .ref (adr K (xnm i))) own_cx0 rfl T.e_RowError.mg (fun cls h => by obtain ⟨i, hi, rfl⟩ := h; exact T.x.exm i hi) sc_law.nd rfl rfl DR_law_done (hr.mono (by decide)) rfl (pa_cons (pv 1) (pa_cons (pe_def D_law_cell_at (hr.mono (by decide)) (pa_cons (pv 0) (pa_cons pe_int pa_nil))) (pa_cons (pv 2) (pa_cons (pv 3) (pa_cons (pv 4) pa_nil))))) (fun e => (pss_one (ps_set (i := 5) sc_law.nd rfl (by first | exact Or.inl rfl | exact Or.inr rfl) (pe_defU DU_law_which (hr.mono (by decide)) (pa_cons (pv 6) pa_nil))))))
      (pss_cons (ps_if (PW.pt (pw_or (pt_cmpR (op_neS hr.units0) (pe_defM0 D_Row_numbers T.cl (hr.mono (by decide)) (pv 3)) (pe_lst (pa_cons pe_int (pa_cons pe_int (pa_cons pe_int pa_nil)))) (nomark _)) (pw_or1 (pt_cmpR (op_neS hr.units0) (pe_defM0 D_Row_numbers T.cl (hr.mono (by decide)) (pv 4)) (pe_op op_rep (pe_lst (pa_cons pe_int (pa_cons pe_int pa_nil))) pe_int) (nomark _))))) (pss_one (ps_ret pe_bl)) pss_nil)
      (pss_one (ps_ret (pe_cmpR (op_eqS hr.units0) (pv 5) (pe_comp ["way"] [1]  (pi_range1 rfl T.z_range (pa_cons pe_int pa_nil)) (fun _ _ _ _ => pts_nil) (fun _ _ _ _ => (pe_or (pe_cmpR op_eq (pv 0) (pv 1) (nomark _)) (pe_one (pe_cmpR op_eq (pv 0) pe_int (nomark _)))))) (nomark _))))))))))), ?_⟩
    refine ⟨_, rfl, a, ns, 0, rfl, hS.sq, (by decide), _, _, rfl, rfl, (by show (0 : Int) < 7; decide), ?_⟩
    obtain ⟨w0, w1⟩ := md (c := ns.getD (0 : Int).toNat 0) (k := 7) (by decide)
    obtain ⟨i, hi⟩ : ∃ i : Nat, ns.getD (0 : Int).toNat 0 % 7 = (i : Int) := ⟨(ns.getD (0 : Int).toNat 0 % 7).toNat, by omega⟩
    try dsimp only [gName, List.set]
    rw [hi]
    refine ⟨_, rfl, a, ns, 2, rfl, hS.sq, (by decide), _, _, rfl, rfl, ⟨by decide, by decide, by decide⟩, _, _, rfl, rfl, (by show (0 : Int) < 10 ^ 59; decide), ?_⟩
    obtain ⟨f0, _⟩ := md (c := ns.getD (2 : Int).toNat 0) (k := 10 ^ (59 : Int).toNat) (by decide)
    try dsimp only [gName, List.set]
    generalize ns.getD (2 : Int).toNat 0 % 10 ^ (59 : Int).toNat = far at f0 ⊢
    have hi7 : i < 7 := by omega
    refine ⟨(by show 3 ≤ sizeLine; decide), fun l1 hl1 => ?_⟩
    have s1 := same_new hl1 (.lst [.int 4, .int 2, .int 4])
    refine ⟨l1, [4, 2, 4], rfl, SqL.of upd_same, (by decide), fun p d H2 _ _ s2 R2 => ?_⟩
    have s12 := s1.trans s2
    try dsimp only [gName, List.set]
    refine ⟨(by show 2 ≤ sizeLine; decide), fun l2 hl2 => ?_⟩
    have s3 := same_new hl2 (.lst [.int 1, .int 2])
    refine ⟨l2, _, _, rfl, rfl, upd_same, (by decide), (by decide), (by show 2 * 20 ≤ sizeLine; decide), fun l3 hl3 => ?_⟩
    have e20 : (List.replicate (20 : Int).toNat ([.int 1, .int 2] : List V)).flatten = fullL.map V.int := fullL_V
    rw [e20]
    have s4 := same_new hl3 (.lst (fullL.map V.int))
    refine ⟨l3, fullL, rfl, SqL.of upd_same, (by decide), fun p' d' H5 _ _ s5 R5 => ?_⟩
    have s35 := s3.trans (s4.trans s5)
    have R2' := R2.same s35
    have s15 := s12.trans s35
    try dsimp only [gName, List.set]
    refine ⟨(by show 0 ≤ sizeLine; decide), fun l4 hl4 => ?_⟩
    have s6 := same_new hl4 (.lst [])
    have R3 := R2'.same s6
    have R6 := R5.same s6
    have s16 := s15.trans s6
    have S6 := hS.same s16
    try dsimp only [gName, List.set]
    generalize upd H5 l4 (.lst []) = H6 at s6 R3 R6 s16 S6 ⊢
    refine ⟨_, rfl, _, rfl, a, ns, 1, rfl, S6.sq, (by decide), _, rfl, _, rfl, _, rfl, _, _, far, p, d, p', d', [4, 2, 4], fullL, i, rfl, R3, R6, rfl, rfl, f0, hi7, rfl, fun H7 s7 => ⟨⟨i, hi7, rfl⟩, fun e he => ?_⟩⟩
    have s8 := same_new he (XA e (.ref (adr K (xnm i))))
    try dsimp only [gName, List.set]
    refine ⟨_, rfl, e, i, rfl, hi7, upd_same, fun l5 H9 s9 hl5 e9 => ?_⟩
    have s79 := s7.trans (s8.trans s9)
    have R9 := R3.same s79
    have R9' := R6.same s79
    obtain ⟨dx, o1⟩ := R9.ob
    refine ⟨_, rfl, p, dx, _, rfl, o1, flds_no _ (by decide +kernel), p, d, [4, 2, 4], rfl, R9, fun n1 hn1 => ?_⟩
    have u1 := same_new hn1 (.lst (([4, 2, 4] : List Int).map V.int))
    refine ⟨(by show 3 ≤ sizeLine; decide), fun n2 hn2 => ?_⟩
    have u2 := same_new hn2 (.lst [.int 4, .int 2, .int 4])
    refine ⟨n1, n2, _, _, rfl, rfl, .inl ⟨SqL.of (u2 _ _ upd_same), SqL.of upd_same⟩, flat_ints _, flat_ints [4, 2, 4], _, rfl, ?_⟩
    have e4 : eqLs (([4, 2, 4] : List Int).map V.int) [.int 4, .int 2, .int 4] = true := eqLs_self (flat_ints [4, 2, 4])
    rw [e4]
    refine iteF ?_
    have u12 := u1.trans u2
    have RA := R9'.same u12
    obtain ⟨dx', o2⟩ := RA.ob
    refine ⟨_, rfl, p', dx', _, rfl, o2, flds_no _ (by decide +kernel), p', d', fullL, rfl, RA, fun n3 hn3 => ?_⟩
    have u3 := same_new hn3 (.lst (fullL.map V.int))
    refine ⟨(by show 2 ≤ sizeLine; decide), fun n4 hn4 => ?_⟩
    have u4 := same_new hn4 (.lst [.int 1, .int 2])
    refine ⟨n4, _, _, rfl, rfl, upd_same, (by decide), (by decide), (by show 2 * 20 ≤ sizeLine; decide), fun n5 hn5 => ?_⟩
    rw [e20]
    have u5 := same_new hn5 (.lst (fullL.map V.int))
    refine ⟨n3, n5, _, _, rfl, rfl, .inl ⟨SqL.of (u5 _ _ (u4 _ _ upd_same)), SqL.of upd_same⟩, flat_ints _, flat_ints _, _, rfl, ?_⟩
    rw [eqLs_self (flat_ints _)]
    refine iteF ?_
    have u15 := u12.trans (u3.trans (u4.trans u5))
    have eT := u15 _ _ e9
    refine ⟨_, rfl, _, rfl, (by decide), (by decide), ?_⟩
    refine comp_range (fun _ => true) (fun j => .bl (decide (j = i) || decide (j = 7))) (by decide) (fun j H3 Q' hj t1 q' => q') (fun j H3 Q' hj _ t1 q' => ?_) fun D H3 t1 hD e3 => ?_
    · have e0 : (0 : Int) + (j : Int) = j := by omega
      rw [e0]
      refine ⟨_, rfl, _, rfl, rfl, _, rfl, ite2 (fun c => ?_) (fun c => ⟨_, rfl, rfl, ?_⟩)⟩
      · have ej : j = i := by
          have := V.int.inj (of_decide_eq_true c)
          omega
        rw [decide_eq_true ej] at q'
        exact q' _ (Same.refl _)
      · have ej : ¬ j = i := fun z => c (decide_eq_true (by rw [z]))
        have e7 : decide (V.int (j : Int) = V.int 7) = decide (j = 7) := by
          rw [Bool.eq_iff_iff, decide_eq_true_iff, decide_eq_true_iff]
          refine ⟨fun z => ?_, fun z => by rw [z]; rfl⟩
          have := V.int.inj z
          omega
        rw [decide_eq_false ej, Bool.false_or] at q'
        rw [e7]
        exact q' _ (Same.refl _)
    · have e3' : H3 D = some (.lst (toldL i)) := e3
      refine ⟨l5, D, _, _, rfl, rfl, .inl ⟨SqL.of (t1 _ _ eT), SqL.of e3'⟩, told_flat i, told_flat i, ?_⟩
      rw [eqLs_self (told_flat i)]
      exact q _
end
theorem all_mk {l : PySem.W.OpenLaw} {w : World} {K : PySem.W.Frag} {h : Heap} {mg : Str → Option Value} {fa C : Addr} (X : K.In h) (G : h.Ns mainGlobals mg) (hfa : mg "law" = some (.ref fa)) {t_MOST_NUMBERS : Tok} {c_RowError : Addr} {c_NoRow : Addr} {c_NoPlace : Addr} {c_NoStretch : Addr} {c_NoTree : Addr} {c_NoOrder : Addr} {c_NoNumber : Addr} {c_NoSky : Addr}
    {f1 : Addr} {od1 an1 : Option Addr} {sl1 : Array (Option Value)} {oc1 kV1 dc1 pm1 cd1 ct1 : Value}
    {f2 : Addr} {od2 an2 : Option Addr} {sl2 : Array (Option Value)} {oc2 kV2 dc2 pm2 cd2 ct2 : Value}
    {f3 : Addr} {od3 an3 : Option Addr} {sl3 : Array (Option Value)} {oc3 kV3 dc3 pm3 cd3 ct3 : Value}
    {f4 : Addr} {od4 an4 : Option Addr} {sl4 : Array (Option Value)} {oc4 kV4 dc4 pm4 cd4 ct4 : Value}
    {f5 : Addr} {od5 an5 : Option Addr} {sl5 : Array (Option Value)} {oc5 kV5 dc5 pm5 cd5 ct5 : Value}
    {f6 : Addr} {od6 an6 : Option Addr} {sl6 : Array (Option Value)} {oc6 kV6 dc6 pm6 cd6 ct6 : Value}
    {f7 : Addr} {od7 an7 : Option Addr} {sl7 : Array (Option Value)} {oc7 kV7 dc7 pm7 cd7 ct7 : Value}
    {f8 : Addr} {od8 an8 : Option Addr} {sl8 : Array (Option Value)} {oc8 kV8 dc8 pm8 cd8 ct8 : Value}
    {f9 : Addr} {od9 an9 : Option Addr} {sl9 : Array (Option Value)} {oc9 kV9 dc9 pm9 cd9 ct9 : Value}
    {f10 : Addr} {od10 an10 : Option Addr} {sl10 : Array (Option Value)} {oc10 kV10 dc10 pm10 cd10 ct10 : Value}
    {f11 : Addr} {od11 an11 : Option Addr} {sl11 : Array (Option Value)} {oc11 kV11 dc11 pm11 cd11 ct11 : Value}
    {f12 : Addr} {od12 an12 : Option Addr} {sl12 : Array (Option Value)} {oc12 kV12 dc12 pm12 cd12 ct12 : Value}
    {f13 : Addr} {od13 an13 : Option Addr} {sl13 : Array (Option Value)} {oc13 kV13 dc13 pm13 cd13 ct13 : Value}
    {f14 : Addr} {od14 an14 : Option Addr} {sl14 : Array (Option Value)} {oc14 kV14 dc14 pm14 cd14 ct14 : Value}
    {f15 : Addr} {od15 an15 : Option Addr} {sl15 : Array (Option Value)} {oc15 kV15 dc15 pm15 cd15 ct15 : Value}
    {f16 : Addr} {od16 an16 : Option Addr} {sl16 : Array (Option Value)} {oc16 kV16 dc16 pm16 cd16 ct16 : Value}
    {f17 : Addr} {od17 an17 : Option Addr} {sl17 : Array (Option Value)} {oc17 kV17 dc17 pm17 cd17 ct17 : Value}
    {f18 : Addr} {od18 an18 : Option Addr} {sl18 : Array (Option Value)} {oc18 kV18 dc18 pm18 cd18 ct18 : Value}
    {f19 : Addr} {od19 an19 : Option Addr} {sl19 : Array (Option Value)} {oc19 kV19 dc19 pm19 cd19 ct19 : Value}
    {f20 : Addr} {od20 an20 : Option Addr} {sl20 : Array (Option Value)} {oc20 kV20 dc20 pm20 cd20 ct20 : Value}
    {f21 : Addr} {od21 an21 : Option Addr} {sl21 : Array (Option Value)} {oc21 kV21 dc21 pm21 cd21 ct21 : Value}
    {f22 : Addr} {od22 an22 : Option Addr} {sl22 : Array (Option Value)} {oc22 kV22 dc22 pm22 cd22 ct22 : Value}
    {f23 : Addr} {od23 an23 : Option Addr} {sl23 : Array (Option Value)} {oc23 kV23 dc23 pm23 cd23 ct23 : Value}
    {f24 : Addr} {od24 an24 : Option Addr} {sl24 : Array (Option Value)} {oc24 kV24 dc24 pm24 cd24 ct24 : Value}
    {f25 : Addr} {od25 an25 : Option Addr} {sl25 : Array (Option Value)} {oc25 kV25 dc25 pm25 cd25 ct25 : Value}
    {f26 : Addr} {od26 an26 : Option Addr} {sl26 : Array (Option Value)} {oc26 kV26 dc26 pm26 cd26 ct26 : Value}
    {f27 : Addr} {od27 an27 : Option Addr} {sl27 : Array (Option Value)} {oc27 kV27 dc27 pm27 cd27 ct27 : Value}
    {f28 : Addr} {od28 an28 : Option Addr} {sl28 : Array (Option Value)} {oc28 kV28 dc28 pm28 cd28 ct28 : Value}
    {f29 : Addr} {od29 an29 : Option Addr} {sl29 : Array (Option Value)} {oc29 kV29 dc29 pm29 cd29 ct29 : Value}
    {f30 : Addr} {od30 an30 : Option Addr} {sl30 : Array (Option Value)} {oc30 kV30 dc30 pm30 cd30 ct30 : Value}
    {f31 : Addr} {od31 an31 : Option Addr} {sl31 : Array (Option Value)} {oc31 kV31 dc31 pm31 cd31 ct31 : Value}
    {f32 : Addr} {od32 an32 : Option Addr} {sl32 : Array (Option Value)} {oc32 kV32 dc32 pm32 cd32 ct32 : Value}
    {f33 : Addr} {od33 an33 : Option Addr} {sl33 : Array (Option Value)} {oc33 kV33 dc33 pm33 cd33 ct33 : Value}
    {f34 : Addr} {od34 an34 : Option Addr} {sl34 : Array (Option Value)} {oc34 kV34 dc34 pm34 cd34 ct34 : Value}
    {f35 : Addr} {od35 an35 : Option Addr} {sl35 : Array (Option Value)} {oc35 kV35 dc35 pm35 cd35 ct35 : Value}
    {f36 : Addr} {od36 an36 : Option Addr} {sl36 : Array (Option Value)} {oc36 kV36 dc36 pm36 cd36 ct36 : Value}
    {f37 : Addr} {od37 an37 : Option Addr} {sl37 : Array (Option Value)} {oc37 kV37 dc37 pm37 cd37 ct37 : Value}
    {f38 : Addr} {od38 an38 : Option Addr} {sl38 : Array (Option Value)} {oc38 kV38 dc38 pm38 cd38 ct38 : Value}
    {f39 : Addr} {od39 an39 : Option Addr} {sl39 : Array (Option Value)} {oc39 kV39 dc39 pm39 cd39 ct39 : Value}
    {f40 : Addr} {od40 an40 : Option Addr} {sl40 : Array (Option Value)} {oc40 kV40 dc40 pm40 cd40 ct40 : Value}
    {f41 : Addr} {od41 an41 : Option Addr} {sl41 : Array (Option Value)} {oc41 kV41 dc41 pm41 cd41 ct41 : Value}
    {f42 : Addr} {od42 an42 : Option Addr} {sl42 : Array (Option Value)} {oc42 kV42 dc42 pm42 cd42 ct42 : Value}
    {f43 : Addr} {od43 an43 : Option Addr} {sl43 : Array (Option Value)} {oc43 kV43 dc43 pm43 cd43 ct43 : Value}
    {f44 : Addr} {od44 an44 : Option Addr} {sl44 : Array (Option Value)} {oc44 kV44 dc44 pm44 cd44 ct44 : Value}
    {f45 : Addr} {od45 an45 : Option Addr} {sl45 : Array (Option Value)} {oc45 kV45 dc45 pm45 cd45 ct45 : Value}
    (a1 : PySem.W.nsIn K mainGlobals "check_size" = some (some (.ref f1)))
    (l1 : K.lookup f1 = some ⟨oc1, od1, .func (PySem.W.fnOf "check_size" "check_size" (defArgs s_check_size) (defBody s_check_size) (defScope s_check_size) .none kV1 dc1 pm1 an1 cd1 ct1), sl1⟩) (c1 : PySem.W.codeIn K cd1 "check_size" = true) (k1 : PySem.W.keepIn K (.ref f1) = true)
    (a2 : PySem.W.nsIn K mainGlobals "check_stretch" = some (some (.ref f2)))
    (l2 : K.lookup f2 = some ⟨oc2, od2, .func (PySem.W.fnOf "check_stretch" "check_stretch" (defArgs s_check_stretch) (defBody s_check_stretch) (defScope s_check_stretch) .none kV2 dc2 pm2 an2 cd2 ct2), sl2⟩) (c2 : PySem.W.codeIn K cd2 "check_stretch" = true) (k2 : PySem.W.keepIn K (.ref f2) = true)
    (a3 : PySem.W.findIn K (.ref C) "__init__" = some (some (.ref f3))) (i3 : PySem.W.isFn K (.ref f3) = true)
    (l3 : K.lookup f3 = some ⟨oc3, od3, .func (PySem.W.fnOf "__init__" "Row.__init__" (defArgs s_Row_init) (defBody s_Row_init) (defScope s_Row_init) .none kV3 dc3 pm3 an3 cd3 ct3), sl3⟩) (c3 : PySem.W.codeIn K cd3 "Row.__init__" = true) (k3 : PySem.W.keepIn K (.ref f3) = true)
    (a4 : PySem.W.findIn K (.ref C) "numbers" = some (some (.ref f4))) (i4 : PySem.W.isFn K (.ref f4) = true)
    (l4 : K.lookup f4 = some ⟨oc4, od4, .func (PySem.W.fnOf "numbers" "Row.numbers" (defArgs s_Row_numbers) (defBody s_Row_numbers) (defScope s_Row_numbers) .none kV4 dc4 pm4 an4 cd4 ct4), sl4⟩) (c4 : PySem.W.codeIn K cd4 "Row.numbers" = true) (k4 : PySem.W.keepIn K (.ref f4) = true)
    (a5 : PySem.W.nsIn K mainGlobals "_law_cell_at" = some (some (.ref f5)))
    (l5 : K.lookup f5 = some ⟨oc5, od5, .func (PySem.W.fnOf "_law_cell_at" "_law_cell_at" (defArgs s_law_cell_at) (defBody s_law_cell_at) (defScope s_law_cell_at) .none kV5 dc5 pm5 an5 cd5 ct5), sl5⟩) (c5 : PySem.W.codeIn K cd5 "_law_cell_at" = true) (k5 : PySem.W.keepIn K (.ref f5) = true)
    (a6 : PySem.W.nsIn K mainGlobals "least" = some (some (.ref f6)))
    (l6 : K.lookup f6 = some ⟨oc6, od6, .func (PySem.W.fnOf "least" "least" (defArgs s_least) (defBody s_least) (defScope s_least) .none kV6 dc6 pm6 an6 cd6 ct6), sl6⟩) (c6 : PySem.W.codeIn K cd6 "least" = true) (k6 : PySem.W.keepIn K (.ref f6) = true)
    (a7 : PySem.W.nsIn K mainGlobals "tree_over" = some (some (.ref f7)))
    (l7 : K.lookup f7 = some ⟨oc7, od7, .func (PySem.W.fnOf "tree_over" "tree_over" (defArgs s_tree_over) (defBody s_tree_over) (defScope s_tree_over) .none kV7 dc7 pm7 an7 cd7 ct7), sl7⟩) (c7 : PySem.W.codeIn K cd7 "tree_over" = true) (k7 : PySem.W.keepIn K (.ref f7) = true)
    (a8 : PySem.W.nsIn K mainGlobals "tree_of" = some (some (.ref f8)))
    (l8 : K.lookup f8 = some ⟨oc8, od8, .func (PySem.W.fnOf "tree_of" "tree_of" (defArgs s_tree_of) (defBody s_tree_of) (defScope s_tree_of) .none kV8 dc8 pm8 an8 cd8 ct8), sl8⟩) (c8 : PySem.W.codeIn K cd8 "tree_of" = true) (k8 : PySem.W.keepIn K (.ref f8) = true)
    (a9 : PySem.W.nsIn K mainGlobals "head_under" = some (some (.ref f9)))
    (l9 : K.lookup f9 = some ⟨oc9, od9, .func (PySem.W.fnOf "head_under" "head_under" (defArgs s_head_under) (defBody s_head_under) (defScope s_head_under) .none kV9 dc9 pm9 an9 cd9 ct9), sl9⟩) (c9 : PySem.W.codeIn K cd9 "head_under" = true) (k9 : PySem.W.keepIn K (.ref f9) = true)
    (a10 : PySem.W.nsIn K mainGlobals "is_part" = some (some (.ref f10)))
    (l10 : K.lookup f10 = some ⟨oc10, od10, .func (PySem.W.fnOf "is_part" "is_part" (defArgs s_is_part) (defBody s_is_part) (defScope s_is_part) .none kV10 dc10 pm10 an10 cd10 ct10), sl10⟩) (c10 : PySem.W.codeIn K cd10 "is_part" = true) (k10 : PySem.W.keepIn K (.ref f10) = true)
    (a11 : PySem.W.nsIn K mainGlobals "is_tree" = some (some (.ref f11)))
    (l11 : K.lookup f11 = some ⟨oc11, od11, .func (PySem.W.fnOf "is_tree" "is_tree" (defArgs s_is_tree) (defBody s_is_tree) (defScope s_is_tree) .none kV11 dc11 pm11 an11 cd11 ct11), sl11⟩) (c11 : PySem.W.codeIn K cd11 "is_tree" = true) (k11 : PySem.W.keepIn K (.ref f11) = true)
    (a12 : PySem.W.nsIn K mainGlobals "check_tree" = some (some (.ref f12)))
    (l12 : K.lookup f12 = some ⟨oc12, od12, .func (PySem.W.fnOf "check_tree" "check_tree" (defArgs s_check_tree) (defBody s_check_tree) (defScope s_check_tree) .none kV12 dc12 pm12 an12 cd12 ct12), sl12⟩) (c12 : PySem.W.codeIn K cd12 "check_tree" = true) (k12 : PySem.W.keepIn K (.ref f12) = true)
    (a13 : PySem.W.nsIn K mainGlobals "check_places" = some (some (.ref f13)))
    (l13 : K.lookup f13 = some ⟨oc13, od13, .func (PySem.W.fnOf "check_places" "check_places" (defArgs s_check_places) (defBody s_check_places) (defScope s_check_places) .none kV13 dc13 pm13 an13 cd13 ct13), sl13⟩) (c13 : PySem.W.codeIn K cd13 "check_places" = true) (k13 : PySem.W.keepIn K (.ref f13) = true)
    (a14 : PySem.W.nsIn K mainGlobals "tree_counts" = some (some (.ref f14)))
    (l14 : K.lookup f14 = some ⟨oc14, od14, .func (PySem.W.fnOf "tree_counts" "tree_counts" (defArgs s_tree_counts) (defBody s_tree_counts) (defScope s_tree_counts) .none kV14 dc14 pm14 an14 cd14 ct14), sl14⟩) (c14 : PySem.W.codeIn K cd14 "tree_counts" = true) (k14 : PySem.W.keepIn K (.ref f14) = true)
    (a15 : PySem.W.nsIn K mainGlobals "ways_to_take" = some (some (.ref f15)))
    (l15 : K.lookup f15 = some ⟨oc15, od15, .func (PySem.W.fnOf "ways_to_take" "ways_to_take" (defArgs s_ways_to_take) (defBody s_ways_to_take) (defScope s_ways_to_take) .none kV15 dc15 pm15 an15 cd15 ct15), sl15⟩) (c15 : PySem.W.codeIn K cd15 "ways_to_take" = true) (k15 : PySem.W.keepIn K (.ref f15) = true)
    (a16 : PySem.W.nsIn K mainGlobals "many_in_part" = some (some (.ref f16)))
    (l16 : K.lookup f16 = some ⟨oc16, od16, .func (PySem.W.fnOf "many_in_part" "many_in_part" (defArgs s_many_in_part) (defBody s_many_in_part) (defScope s_many_in_part) .none kV16 dc16 pm16 an16 cd16 ct16), sl16⟩) (c16 : PySem.W.codeIn K cd16 "many_in_part" = true) (k16 : PySem.W.keepIn K (.ref f16) = true)
    (a17 : PySem.W.nsIn K mainGlobals "many_orders" = some (some (.ref f17)))
    (l17 : K.lookup f17 = some ⟨oc17, od17, .func (PySem.W.fnOf "many_orders" "many_orders" (defArgs s_many_orders) (defBody s_many_orders) (defScope s_many_orders) .none kV17 dc17 pm17 an17 cd17 ct17), sl17⟩) (c17 : PySem.W.codeIn K cd17 "many_orders" = true) (k17 : PySem.W.keepIn K (.ref f17) = true)
    (a18 : PySem.W.nsIn K mainGlobals "towers_of" = some (some (.ref f18)))
    (l18 : K.lookup f18 = some ⟨oc18, od18, .func (PySem.W.fnOf "towers_of" "towers_of" (defArgs s_towers_of) (defBody s_towers_of) (defScope s_towers_of) .none kV18 dc18 pm18 an18 cd18 ct18), sl18⟩) (c18 : PySem.W.codeIn K cd18 "towers_of" = true) (k18 : PySem.W.keepIn K (.ref f18) = true)
    (a19 : PySem.W.nsIn K mainGlobals "check_place" = some (some (.ref f19)))
    (l19 : K.lookup f19 = some ⟨oc19, od19, .func (PySem.W.fnOf "check_place" "check_place" (defArgs s_check_place) (defBody s_check_place) (defScope s_check_place) .none kV19 dc19 pm19 an19 cd19 ct19), sl19⟩) (c19 : PySem.W.codeIn K cd19 "check_place" = true) (k19 : PySem.W.keepIn K (.ref f19) = true)
    (a20 : PySem.W.nsIn K mainGlobals "check_gap" = some (some (.ref f20)))
    (l20 : K.lookup f20 = some ⟨oc20, od20, .func (PySem.W.fnOf "check_gap" "check_gap" (defArgs s_check_gap) (defBody s_check_gap) (defScope s_check_gap) .none kV20 dc20 pm20 an20 cd20 ct20), sl20⟩) (c20 : PySem.W.codeIn K cd20 "check_gap" = true) (k20 : PySem.W.keepIn K (.ref f20) = true)
    (a21 : PySem.W.findIn K (.ref C) "set_at" = some (some (.ref f21))) (i21 : PySem.W.isFn K (.ref f21) = true)
    (l21 : K.lookup f21 = some ⟨oc21, od21, .func (PySem.W.fnOf "set_at" "Row.set_at" (defArgs s_Row_set_at) (defBody s_Row_set_at) (defScope s_Row_set_at) .none kV21 dc21 pm21 an21 cd21 ct21), sl21⟩) (c21 : PySem.W.codeIn K cd21 "Row.set_at" = true) (k21 : PySem.W.keepIn K (.ref f21) = true)
    (a22 : PySem.W.findIn K (.ref C) "take_out" = some (some (.ref f22))) (i22 : PySem.W.isFn K (.ref f22) = true)
    (l22 : K.lookup f22 = some ⟨oc22, od22, .func (PySem.W.fnOf "take_out" "Row.take_out" (defArgs s_Row_take_out) (defBody s_Row_take_out) (defScope s_Row_take_out) .none kV22 dc22 pm22 an22 cd22 ct22), sl22⟩) (c22 : PySem.W.codeIn K cd22 "Row.take_out" = true) (k22 : PySem.W.keepIn K (.ref f22) = true)
    (a23 : PySem.W.findIn K (.ref C) "put_in" = some (some (.ref f23))) (i23 : PySem.W.isFn K (.ref f23) = true)
    (l23 : K.lookup f23 = some ⟨oc23, od23, .func (PySem.W.fnOf "put_in" "Row.put_in" (defArgs s_Row_put_in) (defBody s_Row_put_in) (defScope s_Row_put_in) .none kV23 dc23 pm23 an23 cd23 ct23), sl23⟩) (c23 : PySem.W.codeIn K cd23 "Row.put_in" = true) (k23 : PySem.W.keepIn K (.ref f23) = true)
    (a24 : PySem.W.findIn K (.ref C) "add_to" = some (some (.ref f24))) (i24 : PySem.W.isFn K (.ref f24) = true)
    (l24 : K.lookup f24 = some ⟨oc24, od24, .func (PySem.W.fnOf "add_to" "Row.add_to" (defArgs s_Row_add_to) (defBody s_Row_add_to) (defScope s_Row_add_to) .none kV24 dc24 pm24 an24 cd24 ct24), sl24⟩) (c24 : PySem.W.codeIn K cd24 "Row.add_to" = true) (k24 : PySem.W.keepIn K (.ref f24) = true)
    (a25 : PySem.W.findIn K (.ref C) "cut" = some (some (.ref f25))) (i25 : PySem.W.isFn K (.ref f25) = true)
    (l25 : K.lookup f25 = some ⟨oc25, od25, .func (PySem.W.fnOf "cut" "Row.cut" (defArgs s_Row_cut) (defBody s_Row_cut) (defScope s_Row_cut) .none kV25 dc25 pm25 an25 cd25 ct25), sl25⟩) (c25 : PySem.W.codeIn K cd25 "Row.cut" = true) (k25 : PySem.W.keepIn K (.ref f25) = true)
    (a26 : PySem.W.nsIn K mainGlobals "joined" = some (some (.ref f26)))
    (l26 : K.lookup f26 = some ⟨oc26, od26, .func (PySem.W.fnOf "joined" "joined" (defArgs s_joined) (defBody s_joined) (defScope s_joined) .none kV26 dc26 pm26 an26 cd26 ct26), sl26⟩) (c26 : PySem.W.codeIn K cd26 "joined" = true) (k26 : PySem.W.keepIn K (.ref f26) = true)
    (a27 : PySem.W.nsIn K mainGlobals "check_number" = some (some (.ref f27)))
    (l27 : K.lookup f27 = some ⟨oc27, od27, .func (PySem.W.fnOf "check_number" "check_number" (defArgs s_check_number) (defBody s_check_number) (defScope s_check_number) .none kV27 dc27 pm27 an27 cd27 ct27), sl27⟩) (c27 : PySem.W.codeIn K cd27 "check_number" = true) (k27 : PySem.W.keepIn K (.ref f27) = true)
    (a28 : PySem.W.nsIn K mainGlobals "many_trees" = some (some (.ref f28)))
    (l28 : K.lookup f28 = some ⟨oc28, od28, .func (PySem.W.fnOf "many_trees" "many_trees" (defArgs s_many_trees) (defBody s_many_trees) (defScope s_many_trees) .none kV28 dc28 pm28 an28 cd28 ct28), sl28⟩) (c28 : PySem.W.codeIn K cd28 "many_trees" = true) (k28 : PySem.W.keepIn K (.ref f28) = true)
    (a29 : PySem.W.nsIn K mainGlobals "tree_at" = some (some (.ref f29)))
    (l29 : K.lookup f29 = some ⟨oc29, od29, .func (PySem.W.fnOf "tree_at" "tree_at" (defArgs s_tree_at) (defBody s_tree_at) (defScope s_tree_at) .none kV29 dc29 pm29 an29 cd29 ct29), sl29⟩) (c29 : PySem.W.codeIn K cd29 "tree_at" = true) (k29 : PySem.W.keepIn K (.ref f29) = true)
    (a30 : PySem.W.nsIn K mainGlobals "tree_number" = some (some (.ref f30)))
    (l30 : K.lookup f30 = some ⟨oc30, od30, .func (PySem.W.fnOf "tree_number" "tree_number" (defArgs s_tree_number) (defBody s_tree_number) (defScope s_tree_number) .none kV30 dc30 pm30 an30 cd30 ct30), sl30⟩) (c30 : PySem.W.codeIn K cd30 "tree_number" = true) (k30 : PySem.W.keepIn K (.ref f30) = true)
    (a31 : PySem.W.nsIn K mainGlobals "order_at" = some (some (.ref f31)))
    (l31 : K.lookup f31 = some ⟨oc31, od31, .func (PySem.W.fnOf "order_at" "order_at" (defArgs s_order_at) (defBody s_order_at) (defScope s_order_at) .none kV31 dc31 pm31 an31 cd31 ct31), sl31⟩) (c31 : PySem.W.codeIn K cd31 "order_at" = true) (k31 : PySem.W.keepIn K (.ref f31) = true)
    (a32 : PySem.W.nsIn K mainGlobals "check_order" = some (some (.ref f32)))
    (l32 : K.lookup f32 = some ⟨oc32, od32, .func (PySem.W.fnOf "check_order" "check_order" (defArgs s_check_order) (defBody s_check_order) (defScope s_check_order) .none kV32 dc32 pm32 an32 cd32 ct32), sl32⟩) (c32 : PySem.W.codeIn K cd32 "check_order" = true) (k32 : PySem.W.keepIn K (.ref f32) = true)
    (a33 : PySem.W.nsIn K mainGlobals "order_number" = some (some (.ref f33)))
    (l33 : K.lookup f33 = some ⟨oc33, od33, .func (PySem.W.fnOf "order_number" "order_number" (defArgs s_order_number) (defBody s_order_number) (defScope s_order_number) .none kV33 dc33 pm33 an33 cd33 ct33), sl33⟩) (c33 : PySem.W.codeIn K cd33 "order_number" = true) (k33 : PySem.W.keepIn K (.ref f33) = true)
    (a34 : PySem.W.nsIn K mainGlobals "widest" = some (some (.ref f34)))
    (l34 : K.lookup f34 = some ⟨oc34, od34, .func (PySem.W.fnOf "widest" "widest" (defArgs s_widest) (defBody s_widest) (defScope s_widest) .none kV34 dc34 pm34 an34 cd34 ct34), sl34⟩) (c34 : PySem.W.codeIn K cd34 "widest" = true) (k34 : PySem.W.keepIn K (.ref f34) = true)
    (a35 : PySem.W.nsIn K mainGlobals "water" = some (some (.ref f35)))
    (l35 : K.lookup f35 = some ⟨oc35, od35, .func (PySem.W.fnOf "water" "water" (defArgs s_water) (defBody s_water) (defScope s_water) .none kV35 dc35 pm35 an35 cd35 ct35), sl35⟩) (c35 : PySem.W.codeIn K cd35 "water" = true) (k35 : PySem.W.keepIn K (.ref f35) = true)
    (a36 : PySem.W.nsIn K mainGlobals "_law_no_row" = some (some (.ref f36)))
    (l36 : K.lookup f36 = some ⟨oc36, od36, .func (PySem.W.fnOf "_law_no_row" "_law_no_row" (defArgs s_law_no_row) (defBody s_law_no_row) (defScope s_law_no_row) .none kV36 dc36 pm36 an36 cd36 ct36), sl36⟩) (c36 : PySem.W.codeIn K cd36 "_law_no_row" = true) (k36 : PySem.W.keepIn K (.ref f36) = true)
    (a37 : PySem.W.nsIn K mainGlobals "_law_no_place" = some (some (.ref f37)))
    (l37 : K.lookup f37 = some ⟨oc37, od37, .func (PySem.W.fnOf "_law_no_place" "_law_no_place" (defArgs s_law_no_place) (defBody s_law_no_place) (defScope s_law_no_place) .none kV37 dc37 pm37 an37 cd37 ct37), sl37⟩) (c37 : PySem.W.codeIn K cd37 "_law_no_place" = true) (k37 : PySem.W.keepIn K (.ref f37) = true)
    (a38 : PySem.W.nsIn K mainGlobals "_law_no_stretch" = some (some (.ref f38)))
    (l38 : K.lookup f38 = some ⟨oc38, od38, .func (PySem.W.fnOf "_law_no_stretch" "_law_no_stretch" (defArgs s_law_no_stretch) (defBody s_law_no_stretch) (defScope s_law_no_stretch) .none kV38 dc38 pm38 an38 cd38 ct38), sl38⟩) (c38 : PySem.W.codeIn K cd38 "_law_no_stretch" = true) (k38 : PySem.W.keepIn K (.ref f38) = true)
    (a39 : PySem.W.nsIn K mainGlobals "_law_no_tree" = some (some (.ref f39)))
    (l39 : K.lookup f39 = some ⟨oc39, od39, .func (PySem.W.fnOf "_law_no_tree" "_law_no_tree" (defArgs s_law_no_tree) (defBody s_law_no_tree) (defScope s_law_no_tree) .none kV39 dc39 pm39 an39 cd39 ct39), sl39⟩) (c39 : PySem.W.codeIn K cd39 "_law_no_tree" = true) (k39 : PySem.W.keepIn K (.ref f39) = true)
    (a40 : PySem.W.nsIn K mainGlobals "_law_no_order" = some (some (.ref f40)))
    (l40 : K.lookup f40 = some ⟨oc40, od40, .func (PySem.W.fnOf "_law_no_order" "_law_no_order" (defArgs s_law_no_order) (defBody s_law_no_order) (defScope s_law_no_order) .none kV40 dc40 pm40 an40 cd40 ct40), sl40⟩) (c40 : PySem.W.codeIn K cd40 "_law_no_order" = true) (k40 : PySem.W.keepIn K (.ref f40) = true)
    (a41 : PySem.W.nsIn K mainGlobals "_law_no_number" = some (some (.ref f41)))
    (l41 : K.lookup f41 = some ⟨oc41, od41, .func (PySem.W.fnOf "_law_no_number" "_law_no_number" (defArgs s_law_no_number) (defBody s_law_no_number) (defScope s_law_no_number) .none kV41 dc41 pm41 an41 cd41 ct41), sl41⟩) (c41 : PySem.W.codeIn K cd41 "_law_no_number" = true) (k41 : PySem.W.keepIn K (.ref f41) = true)
    (a42 : PySem.W.nsIn K mainGlobals "_law_no_sky" = some (some (.ref f42)))
    (l42 : K.lookup f42 = some ⟨oc42, od42, .func (PySem.W.fnOf "_law_no_sky" "_law_no_sky" (defArgs s_law_no_sky) (defBody s_law_no_sky) (defScope s_law_no_sky) .none kV42 dc42 pm42 an42 cd42 ct42), sl42⟩) (c42 : PySem.W.codeIn K cd42 "_law_no_sky" = true) (k42 : PySem.W.keepIn K (.ref f42) = true)
    (a43 : PySem.W.nsIn K mainGlobals "_law_done" = some (some (.ref f43)))
    (l43 : K.lookup f43 = some ⟨oc43, od43, .func (PySem.W.fnOf "_law_done" "_law_done" (defArgs s_law_done) (defBody s_law_done) (defScope s_law_done) .none kV43 dc43 pm43 an43 cd43 ct43), sl43⟩) (c43 : PySem.W.codeIn K cd43 "_law_done" = true) (k43 : PySem.W.keepIn K (.ref f43) = true)
    (a44 : PySem.W.nsIn K mainGlobals "_law_which" = some (some (.ref f44)))
    (l44 : K.lookup f44 = some ⟨oc44, od44, .func (PySem.W.fnOf "_law_which" "_law_which" (defArgs s_law_which) (defBody s_law_which) (defScope s_law_which) .none kV44 dc44 pm44 an44 cd44 ct44), sl44⟩) (c44 : PySem.W.codeIn K cd44 "_law_which" = true) (k44 : PySem.W.keepIn K (.ref f44) = true)
    (a45 : PySem.W.nsIn K mainGlobals "law" = some (some (.ref f45)))
    (l45 : K.lookup f45 = some ⟨oc45, od45, .func (PySem.W.fnOf "law" "law" (defArgs s_law) (defBody s_law) (defScope s_law) .none kV45 dc45 pm45 an45 cd45 ct45), sl45⟩) (c45 : PySem.W.codeIn K cd45 "law" = true) (k45 : PySem.W.keepIn K (.ref f45) = true)
    (aC : PySem.W.nsIn K mainGlobals "Row" = some (some (.ref C))) (pg : PySem.W.plainGet K C Str.empty = true) (hd : PySem.W.hasDictIn K C = true) (po : PySem.W.plainOver K C = true) (sa : PySem.W.findIn K (.ref C) "__setattr__" = some (some (.builtin "object.__setattr__"))) (mk : PySem.W.makesIn K C = true) (kc : PySem.W.keepIn K (.ref C) = true)
    (n_held : PySem.W.findIn K (.ref C) "held" = some none)
    (g_MOST_NUMBERS : PySem.W.nsIn K mainGlobals "MOST_NUMBERS" = some (some (.int 40 t_MOST_NUMBERS)))
    (z_ValueError : PySem.W.nsIn K mainGlobals "ValueError" = some none)
    (z_min : PySem.W.nsIn K mainGlobals "min" = some none)
    (z_range : PySem.W.nsIn K mainGlobals "range" = some none)
    (z_sum : PySem.W.nsIn K mainGlobals "sum" = some none)
    (z_enumerate : PySem.W.nsIn K mainGlobals "enumerate" = some none)
    (z_sorted : PySem.W.nsIn K mainGlobals "sorted" = some none)
    (z_len : PySem.W.nsIn K mainGlobals "len" = some none)
    (z_any : PySem.W.nsIn K mainGlobals "any" = some none)
    (z_max : PySem.W.nsIn K mainGlobals "max" = some none)
    (z_list : PySem.W.nsIn K mainGlobals "list" = some none)
    (z_isinstance : PySem.W.nsIn K mainGlobals "isinstance" = some none)
    (q_RowError : PySem.W.nsIn K mainGlobals "RowError" = some (some (.ref c_RowError))) (x_RowError : PySem.W.excIn K c_RowError bmV newV = true) (m_RowError : PySem.W.exmOne K (.ref c_RowError) (.ref c_RowError) = some true)
    (q_NoRow : PySem.W.nsIn K mainGlobals "NoRow" = some (some (.ref c_NoRow))) (x_NoRow : PySem.W.excIn K c_NoRow bmV newV = true) (m_NoRow : PySem.W.exmOne K (.ref c_NoRow) (.ref c_NoRow) = some true)
    (q_NoPlace : PySem.W.nsIn K mainGlobals "NoPlace" = some (some (.ref c_NoPlace))) (x_NoPlace : PySem.W.excIn K c_NoPlace bmV newV = true) (m_NoPlace : PySem.W.exmOne K (.ref c_NoPlace) (.ref c_NoPlace) = some true)
    (q_NoStretch : PySem.W.nsIn K mainGlobals "NoStretch" = some (some (.ref c_NoStretch))) (x_NoStretch : PySem.W.excIn K c_NoStretch bmV newV = true) (m_NoStretch : PySem.W.exmOne K (.ref c_NoStretch) (.ref c_NoStretch) = some true)
    (q_NoTree : PySem.W.nsIn K mainGlobals "NoTree" = some (some (.ref c_NoTree))) (x_NoTree : PySem.W.excIn K c_NoTree bmV newV = true) (m_NoTree : PySem.W.exmOne K (.ref c_NoTree) (.ref c_NoTree) = some true)
    (q_NoOrder : PySem.W.nsIn K mainGlobals "NoOrder" = some (some (.ref c_NoOrder))) (x_NoOrder : PySem.W.excIn K c_NoOrder bmV newV = true) (m_NoOrder : PySem.W.exmOne K (.ref c_NoOrder) (.ref c_NoOrder) = some true)
    (q_NoNumber : PySem.W.nsIn K mainGlobals "NoNumber" = some (some (.ref c_NoNumber))) (x_NoNumber : PySem.W.excIn K c_NoNumber bmV newV = true) (m_NoNumber : PySem.W.exmOne K (.ref c_NoNumber) (.ref c_NoNumber) = some true)
    (q_NoSky : PySem.W.nsIn K mainGlobals "NoSky" = some (some (.ref c_NoSky))) (x_NoSky : PySem.W.excIn K c_NoSky bmV newV = true) (m_NoSky : PySem.W.exmOne K (.ref c_NoSky) (.ref c_NoSky) = some true)
    (xt : xTab K c_RowError [c_NoRow, c_NoPlace, c_NoStretch, c_NoTree, c_NoOrder, c_NoNumber, c_NoSky] = true) :
    ∃ fd : FuncData, (∀ (s : Shared) (v : Value), BindsTo s fd ⟨[v], []⟩ [("script", v)]) ∧ ∀ base : Heap, K.In base → base.Ns mainGlobals mg → FnOk l.prog w K mg base CX0 49 fa fd ["script"] (sp_law K) := by
  have e := hfa.symm.trans (PySem.W.mg_of X G a45)
  cases e
  have T : Txt K mg C := ⟨⟨pg, hd, po, sa⟩, n_held, ⟨_, PySem.W.mg_of X G g_MOST_NUMBERS⟩, PySem.W.mg_none_of X G z_ValueError, PySem.W.mg_none_of X G z_min, PySem.W.mg_none_of X G z_range, PySem.W.mg_none_of X G z_sum, PySem.W.mg_none_of X G z_enumerate, PySem.W.mg_none_of X G z_sorted, PySem.W.mg_none_of X G z_len, PySem.W.mg_none_of X G z_any, PySem.W.mg_none_of X G z_max, PySem.W.mg_none_of X G z_list, PySem.W.mg_none_of X G z_isinstance, excOf X G q_RowError x_RowError m_RowError, excOf X G q_NoRow x_NoRow m_NoRow, excOf X G q_NoPlace x_NoPlace m_NoPlace, excOf X G q_NoStretch x_NoStretch m_NoStretch, excOf X G q_NoTree x_NoTree m_NoTree, excOf X G q_NoOrder x_NoOrder m_NoOrder, excOf X G q_NoNumber x_NoNumber m_NoNumber, excOf X G q_NoSky x_NoSky m_NoSky, xfacts (adr_of q_RowError) [c_NoRow, c_NoPlace, c_NoStretch, c_NoTree, c_NoOrder, c_NoNumber, c_NoSky] (fun i hi => by match i, hi with | 0, _ => exact adr_of q_NoRow | 1, _ => exact adr_of q_NoPlace | 2, _ => exact adr_of q_NoStretch | 3, _ => exact adr_of q_NoTree | 4, _ => exact adr_of q_NoOrder | 5, _ => exact adr_of q_NoNumber | 6, _ => exact adr_of q_NoSky) xt⟩
  have F1 := fun_mk (st := s_check_size) l1 c1 k1
  have b1 := F1.binds (ps := ["size"]) fun _ _ _ _ _ _ us hl => by obtain ⟨_, rfl⟩ := len1 hl; rfl
  have F2 := fun_mk (st := s_check_stretch) l2 c2 k2
  have b2 := F2.binds (ps := ["size", "first", "behind"]) fun _ _ _ _ _ _ us hl => by obtain ⟨_, _, _, rfl⟩ := len3 hl; rfl
  have F3 := fun_mk (st := s_Row_init) l3 c3 k3
  have b3 := F3.binds (ps := ["self", "numbers"]) fun _ _ _ _ _ _ us hl => by obtain ⟨_, _, rfl⟩ := len2 hl; rfl
  have F4 := fun_mk (st := s_Row_numbers) l4 c4 k4
  have b4 := F4.binds (ps := ["self"]) fun _ _ _ _ _ _ us hl => by obtain ⟨_, rfl⟩ := len1 hl; rfl
  have F5 := fun_mk (st := s_law_cell_at) l5 c5 k5
  have b5 := F5.binds (ps := ["script", "k"]) fun _ _ _ _ _ _ us hl => by obtain ⟨_, _, rfl⟩ := len2 hl; rfl
  have F6 := fun_mk (st := s_least) l6 c6 k6
  have b6 := F6.binds (ps := ["row", "first", "behind"]) fun _ _ _ _ _ _ us hl => by obtain ⟨_, _, _, rfl⟩ := len3 hl; rfl
  have F7 := fun_mk (st := s_tree_over) l7 c7 k7
  have b7 := F7.binds (ps := ["row", "first", "behind", "over"]) fun _ _ _ _ _ _ us hl => by obtain ⟨_, _, _, _, rfl⟩ := len4 hl; rfl
  have F8 := fun_mk (st := s_tree_of) l8 c8 k8
  have b8 := F8.binds (ps := ["row"]) fun _ _ _ _ _ _ us hl => by obtain ⟨_, rfl⟩ := len1 hl; rfl
  have F9 := fun_mk (st := s_head_under) l9 c9 k9
  have b9 := F9.binds (ps := ["tree", "first", "behind", "over"]) fun _ _ _ _ _ _ us hl => by obtain ⟨_, _, _, _, rfl⟩ := len4 hl; rfl
  have F10 := fun_mk (st := s_is_part) l10 c10 k10
  have b10 := F10.binds (ps := ["some", "first", "behind", "over"]) fun _ _ _ _ _ _ us hl => by obtain ⟨_, _, _, _, rfl⟩ := len4 hl; rfl
  have F11 := fun_mk (st := s_is_tree) l11 c11 k11
  have b11 := F11.binds (ps := ["some"]) fun _ _ _ _ _ _ us hl => by obtain ⟨_, rfl⟩ := len1 hl; rfl
  have F12 := fun_mk (st := s_check_tree) l12 c12 k12
  have b12 := F12.binds (ps := ["some"]) fun _ _ _ _ _ _ us hl => by obtain ⟨_, rfl⟩ := len1 hl; rfl
  have F13 := fun_mk (st := s_check_places) l13 c13 k13
  have b13 := F13.binds (ps := ["size"]) fun _ _ _ _ _ _ us hl => by obtain ⟨_, rfl⟩ := len1 hl; rfl
  have F14 := fun_mk (st := s_tree_counts) l14 c14 k14
  have b14 := F14.binds (ps := ["size"]) fun _ _ _ _ _ _ us hl => by obtain ⟨_, rfl⟩ := len1 hl; rfl
  have F15 := fun_mk (st := s_ways_to_take) l15 c15 k15
  have b15 := F15.binds (ps := ["many", "taken"]) fun _ _ _ _ _ _ us hl => by obtain ⟨_, _, rfl⟩ := len2 hl; rfl
  have F16 := fun_mk (st := s_many_in_part) l16 c16 k16
  have b16 := F16.binds (ps := ["tree", "first", "behind", "over"]) fun _ _ _ _ _ _ us hl => by obtain ⟨_, _, _, _, rfl⟩ := len4 hl; rfl
  have F17 := fun_mk (st := s_many_orders) l17 c17 k17
  have b17 := F17.binds (ps := ["tree"]) fun _ _ _ _ _ _ us hl => by obtain ⟨_, rfl⟩ := len1 hl; rfl
  have F18 := fun_mk (st := s_towers_of) l18 c18 k18
  have b18 := F18.binds (ps := ["row"]) fun _ _ _ _ _ _ us hl => by obtain ⟨_, rfl⟩ := len1 hl; rfl
  have F19 := fun_mk (st := s_check_place) l19 c19 k19
  have b19 := F19.binds (ps := ["size", "place"]) fun _ _ _ _ _ _ us hl => by obtain ⟨_, _, rfl⟩ := len2 hl; rfl
  have F20 := fun_mk (st := s_check_gap) l20 c20 k20
  have b20 := F20.binds (ps := ["size", "place"]) fun _ _ _ _ _ _ us hl => by obtain ⟨_, _, rfl⟩ := len2 hl; rfl
  have F21 := fun_mk (st := s_Row_set_at) l21 c21 k21
  have b21 := F21.binds (ps := ["self", "place", "number"]) fun _ _ _ _ _ _ us hl => by obtain ⟨_, _, _, rfl⟩ := len3 hl; rfl
  have F22 := fun_mk (st := s_Row_take_out) l22 c22 k22
  have b22 := F22.binds (ps := ["self", "place"]) fun _ _ _ _ _ _ us hl => by obtain ⟨_, _, rfl⟩ := len2 hl; rfl
  have F23 := fun_mk (st := s_Row_put_in) l23 c23 k23
  have b23 := F23.binds (ps := ["self", "place", "number"]) fun _ _ _ _ _ _ us hl => by obtain ⟨_, _, _, rfl⟩ := len3 hl; rfl
  have F24 := fun_mk (st := s_Row_add_to) l24 c24 k24
  have b24 := F24.binds (ps := ["self", "first", "behind", "number"]) fun _ _ _ _ _ _ us hl => by obtain ⟨_, _, _, _, rfl⟩ := len4 hl; rfl
  have F25 := fun_mk (st := s_Row_cut) l25 c25 k25
  have b25 := F25.binds (ps := ["self", "place"]) fun _ _ _ _ _ _ us hl => by obtain ⟨_, _, rfl⟩ := len2 hl; rfl
  have F26 := fun_mk (st := s_joined) l26 c26 k26
  have b26 := F26.binds (ps := ["one", "other"]) fun _ _ _ _ _ _ us hl => by obtain ⟨_, _, rfl⟩ := len2 hl; rfl
  have F27 := fun_mk (st := s_check_number) l27 c27 k27
  have b27 := F27.binds (ps := ["many", "number"]) fun _ _ _ _ _ _ us hl => by obtain ⟨_, _, rfl⟩ := len2 hl; rfl
  have F28 := fun_mk (st := s_many_trees) l28 c28 k28
  have b28 := F28.binds (ps := ["size"]) fun _ _ _ _ _ _ us hl => by obtain ⟨_, rfl⟩ := len1 hl; rfl
  have F29 := fun_mk (st := s_tree_at) l29 c29 k29
  have b29 := F29.binds (ps := ["size", "number"]) fun _ _ _ _ _ _ us hl => by obtain ⟨_, _, rfl⟩ := len2 hl; rfl
  have F30 := fun_mk (st := s_tree_number) l30 c30 k30
  have b30 := F30.binds (ps := ["tree"]) fun _ _ _ _ _ _ us hl => by obtain ⟨_, rfl⟩ := len1 hl; rfl
  have F31 := fun_mk (st := s_order_at) l31 c31 k31
  have b31 := F31.binds (ps := ["tree", "number"]) fun _ _ _ _ _ _ us hl => by obtain ⟨_, _, rfl⟩ := len2 hl; rfl
  have F32 := fun_mk (st := s_check_order) l32 c32 k32
  have b32 := F32.binds (ps := ["tree", "order"]) fun _ _ _ _ _ _ us hl => by obtain ⟨_, _, rfl⟩ := len2 hl; rfl
  have F33 := fun_mk (st := s_order_number) l33 c33 k33
  have b33 := F33.binds (ps := ["tree", "order"]) fun _ _ _ _ _ _ us hl => by obtain ⟨_, _, rfl⟩ := len2 hl; rfl
  have F34 := fun_mk (st := s_widest) l34 c34 k34
  have b34 := F34.binds (ps := ["row"]) fun _ _ _ _ _ _ us hl => by obtain ⟨_, rfl⟩ := len1 hl; rfl
  have F35 := fun_mk (st := s_water) l35 c35 k35
  have b35 := F35.binds (ps := ["row"]) fun _ _ _ _ _ _ us hl => by obtain ⟨_, rfl⟩ := len1 hl; rfl
  have F36 := fun_mk (st := s_law_no_row) l36 c36 k36
  have b36 := F36.binds (ps := ["row", "full", "cell"]) fun _ _ _ _ _ _ us hl => by obtain ⟨_, _, _, rfl⟩ := len3 hl; rfl
  have F37 := fun_mk (st := s_law_no_place) l37 c37 k37
  have b37 := F37.binds (ps := ["row", "cell", "far"]) fun _ _ _ _ _ _ us hl => by obtain ⟨_, _, _, rfl⟩ := len3 hl; rfl
  have F38 := fun_mk (st := s_law_no_stretch) l38 c38 k38
  have b38 := F38.binds (ps := ["row", "cell", "far"]) fun _ _ _ _ _ _ us hl => by obtain ⟨_, _, _, rfl⟩ := len3 hl; rfl
  have F39 := fun_mk (st := s_law_no_tree) l39 c39 k39
  have b39 := F39.binds (ps := ["cell", "far"]) fun _ _ _ _ _ _ us hl => by obtain ⟨_, _, rfl⟩ := len2 hl; rfl
  have F40 := fun_mk (st := s_law_no_order) l40 c40 k40
  have b40 := F40.binds (ps := ["cell", "far"]) fun _ _ _ _ _ _ us hl => by obtain ⟨_, _, rfl⟩ := len2 hl; rfl
  have F41 := fun_mk (st := s_law_no_number) l41 c41 k41
  have b41 := F41.binds (ps := ["cell", "far"]) fun _ _ _ _ _ _ us hl => by obtain ⟨_, _, rfl⟩ := len2 hl; rfl
  have F42 := fun_mk (st := s_law_no_sky) l42 c42 k42
  have b42 := F42.binds (ps := ["cell", "far"]) fun _ _ _ _ _ _ us hl => by obtain ⟨_, _, rfl⟩ := len2 hl; rfl
  have F43 := fun_mk (st := s_law_done) l43 c43 k43
  have b43 := F43.binds (ps := ["way", "cell", "far", "row", "full"]) fun _ _ _ _ _ _ us hl => by obtain ⟨_, _, _, _, _, rfl⟩ := len5 hl; rfl
  have F44 := fun_mk (st := s_law_which) l44 c44 k44
  have b44 := F44.binds (ps := ["e"]) fun _ _ _ _ _ _ us hl => by obtain ⟨_, rfl⟩ := len1 hl; rfl
  have F45 := fun_mk (st := s_law) l45 c45 k45
  refine ⟨PySem.W.fnOf "law" "law" (defArgs s_law) (defBody s_law) (defScope s_law) .none kV45 dc45 pm45 an45 cd45 ct45, fun s v => .of_eq rfl, fun base _ _ => ?_⟩
  have D_check_size : Def l.prog w K mg base 1 "check_size" ["size"] (sp_check_size K C) := ⟨_, _, d_check_size F1 T , PySem.W.mg_of X G a1, k1, b1⟩
  have D_check_stretch : Def l.prog w K mg base 1 "check_stretch" ["size", "first", "behind"] (sp_check_stretch K C) := ⟨_, _, d_check_stretch F2 T , PySem.W.mg_of X G a2, k2, b2⟩
  have D_Row : DefC l.prog w K mg base 2 C "Row" ["self", "numbers"] (sp_Row_init K C) := ⟨_, _, d_Row_init F3 T D_check_size, ⟨mk, a3, i3, kc⟩, b3, PySem.W.mg_of X G aC⟩
  have D_Row_numbers : DefM l.prog w K mg base 1 C "numbers" ["self"] (sp_Row_numbers K C) := ⟨_, _, d_Row_numbers F4 T , ⟨a4, i4, k4⟩, b4⟩
  have D_law_cell_at : Def l.prog w K mg base 1 "_law_cell_at" ["script", "k"] (sp_law_cell_at K C) := ⟨_, _, d_law_cell_at F5 T , PySem.W.mg_of X G a5, k5, b5⟩
  have D_least : Def l.prog w K mg base 2 "least" ["row", "first", "behind"] (sp_least K C) := ⟨_, _, d_least F6 T D_Row_numbers D_check_stretch, PySem.W.mg_of X G a6, k6, b6⟩
  have D_tree_over : Def l.prog w K mg base 43 "tree_over" ["row", "first", "behind", "over"] (sp_tree_over K C) := ⟨_, _, d_tree_over F7 T (PySem.W.mg_of X G a7) k7 b7 D_least, PySem.W.mg_of X G a7, k7, b7⟩
  have D_tree_of : Def l.prog w K mg base 44 "tree_of" ["row"] (sp_tree_of K C) := ⟨_, _, d_tree_of F8 T D_tree_over D_Row_numbers, PySem.W.mg_of X G a8, k8, b8⟩
  have D_head_under : Def l.prog w K mg base 1 "head_under" ["tree", "first", "behind", "over"] (sp_head_under K C) := ⟨_, _, d_head_under F9 T , PySem.W.mg_of X G a9, k9, b9⟩
  have D_is_part : Def l.prog w K mg base 42 "is_part" ["some", "first", "behind", "over"] (sp_is_part K C) := ⟨_, _, d_is_part F10 T (PySem.W.mg_of X G a10) k10 b10 D_head_under, PySem.W.mg_of X G a10, k10, b10⟩
  have D_is_tree : Def l.prog w K mg base 43 "is_tree" ["some"] (sp_is_tree K C) := ⟨_, _, d_is_tree F11 T D_is_part, PySem.W.mg_of X G a11, k11, b11⟩
  have D_check_tree : Def l.prog w K mg base 44 "check_tree" ["some"] (sp_check_tree K C) := ⟨_, _, d_check_tree F12 T D_is_tree, PySem.W.mg_of X G a12, k12, b12⟩
  have D_check_places : Def l.prog w K mg base 1 "check_places" ["size"] (sp_check_places K C) := ⟨_, _, d_check_places F13 T , PySem.W.mg_of X G a13, k13, b13⟩
  have D_tree_counts : Def l.prog w K mg base 1 "tree_counts" ["size"] (sp_tree_counts K C) := ⟨_, _, d_tree_counts F14 T , PySem.W.mg_of X G a14, k14, b14⟩
  have D_ways_to_take : Def l.prog w K mg base 1 "ways_to_take" ["many", "taken"] (sp_ways_to_take K C) := ⟨_, _, d_ways_to_take F15 T , PySem.W.mg_of X G a15, k15, b15⟩
  have D_many_in_part : Def l.prog w K mg base 42 "many_in_part" ["tree", "first", "behind", "over"] (sp_many_in_part K C) := ⟨_, _, d_many_in_part F16 T (PySem.W.mg_of X G a16) k16 b16 D_head_under D_ways_to_take, PySem.W.mg_of X G a16, k16, b16⟩
  have D_many_orders : Def l.prog w K mg base 45 "many_orders" ["tree"] (sp_many_orders K C) := ⟨_, _, d_many_orders F17 T D_check_tree D_many_in_part, PySem.W.mg_of X G a17, k17, b17⟩
  have D_towers_of : Def l.prog w K mg base 2 "towers_of" ["row"] (sp_towers_of K C) := ⟨_, _, d_towers_of F18 T D_Row_numbers, PySem.W.mg_of X G a18, k18, b18⟩
  have DR_check_size : DefX l.prog w K mg base 1 "check_size" ["size"] (spR_check_size K C) := ⟨_, _, dR_check_size F1 T , PySem.W.mg_of X G a1, k1, b1⟩
  have DR_check_place : DefX l.prog w K mg base 1 "check_place" ["size", "place"] (spR_check_place K C) := ⟨_, _, dR_check_place F19 T , PySem.W.mg_of X G a19, k19, b19⟩
  have DR_check_gap : DefX l.prog w K mg base 1 "check_gap" ["size", "place"] (spR_check_gap K C) := ⟨_, _, dR_check_gap F20 T , PySem.W.mg_of X G a20, k20, b20⟩
  have DR_check_stretch : DefX l.prog w K mg base 1 "check_stretch" ["size", "first", "behind"] (spR_check_stretch K C) := ⟨_, _, dR_check_stretch F2 T , PySem.W.mg_of X G a2, k2, b2⟩
  have DR_Row : DefCX l.prog w K mg base 2 C "Row" ["self", "numbers"] (spR_Row_init K C) := ⟨_, _, dR_Row_init F3 T DR_check_size, ⟨mk, a3, i3, kc⟩, b3, PySem.W.mg_of X G aC⟩
  have DR_Row_set_at : DefMX l.prog w K mg base 2 C "set_at" ["self", "place", "number"] (spR_Row_set_at K C) := ⟨_, _, dR_Row_set_at F21 T DR_check_place, ⟨a21, i21, k21⟩, b21⟩
  have DR_Row_take_out : DefMX l.prog w K mg base 2 C "take_out" ["self", "place"] (spR_Row_take_out K C) := ⟨_, _, dR_Row_take_out F22 T DR_check_place, ⟨a22, i22, k22⟩, b22⟩
  have DR_Row_put_in : DefMX l.prog w K mg base 2 C "put_in" ["self", "place", "number"] (spR_Row_put_in K C) := ⟨_, _, dR_Row_put_in F23 T D_check_size DR_check_size DR_check_gap, ⟨a23, i23, k23⟩, b23⟩
  have DR_Row_add_to : DefMX l.prog w K mg base 2 C "add_to" ["self", "first", "behind", "number"] (spR_Row_add_to K C) := ⟨_, _, dR_Row_add_to F24 T DR_check_stretch, ⟨a24, i24, k24⟩, b24⟩
  have DR_Row_cut : DefMX l.prog w K mg base 2 C "cut" ["self", "place"] (spR_Row_cut K C) := ⟨_, _, dR_Row_cut F25 T DR_check_gap, ⟨a25, i25, k25⟩, b25⟩
  have DR_joined : DefX l.prog w K mg base 4 "joined" ["one", "other"] (spR_joined K C) := ⟨_, _, dR_joined F26 T D_Row_numbers DR_Row, PySem.W.mg_of X G a26, k26, b26⟩
  have DR_least : DefX l.prog w K mg base 2 "least" ["row", "first", "behind"] (spR_least K C) := ⟨_, _, dR_least F6 T D_Row_numbers DR_check_stretch, PySem.W.mg_of X G a6, k6, b6⟩
  have DR_check_tree : DefX l.prog w K mg base 44 "check_tree" ["some"] (spR_check_tree K C) := ⟨_, _, dR_check_tree F12 T D_is_tree, PySem.W.mg_of X G a12, k12, b12⟩
  have DR_check_places : DefX l.prog w K mg base 1 "check_places" ["size"] (spR_check_places K C) := ⟨_, _, dR_check_places F13 T , PySem.W.mg_of X G a13, k13, b13⟩
  have DR_check_number : DefX l.prog w K mg base 1 "check_number" ["many", "number"] (spR_check_number K C) := ⟨_, _, dR_check_number F27 T , PySem.W.mg_of X G a27, k27, b27⟩
  have DR_many_trees : DefX l.prog w K mg base 2 "many_trees" ["size"] (spR_many_trees K C) := ⟨_, _, dR_many_trees F28 T DR_check_places, PySem.W.mg_of X G a28, k28, b28⟩
  have DR_tree_at : DefX l.prog w K mg base 2 "tree_at" ["size", "number"] (spR_tree_at K C) := ⟨_, _, dR_tree_at F29 T D_check_places D_tree_counts DR_check_places DR_check_number, PySem.W.mg_of X G a29, k29, b29⟩
  have DR_tree_number : DefX l.prog w K mg base 45 "tree_number" ["tree"] (spR_tree_number K C) := ⟨_, _, dR_tree_number F30 T DR_check_tree, PySem.W.mg_of X G a30, k30, b30⟩
  have DR_many_orders : DefX l.prog w K mg base 45 "many_orders" ["tree"] (spR_many_orders K C) := ⟨_, _, dR_many_orders F17 T DR_check_tree, PySem.W.mg_of X G a17, k17, b17⟩
  have DR_order_at : DefX l.prog w K mg base 46 "order_at" ["tree", "number"] (spR_order_at K C) := ⟨_, _, dR_order_at F31 T D_many_orders DR_many_orders DR_check_number, PySem.W.mg_of X G a31, k31, b31⟩
  have DR_check_order : DefX l.prog w K mg base 45 "check_order" ["tree", "order"] (spR_check_order K C) := ⟨_, _, dR_check_order F32 T D_tree_of D_Row, PySem.W.mg_of X G a32, k32, b32⟩
  have DR_order_number : DefX l.prog w K mg base 46 "order_number" ["tree", "order"] (spR_order_number K C) := ⟨_, _, dR_order_number F33 T D_check_tree DR_check_tree DR_check_order, PySem.W.mg_of X G a33, k33, b33⟩
  have DR_towers_of : DefX l.prog w K mg base 2 "towers_of" ["row"] (spR_towers_of K C) := ⟨_, _, dR_towers_of F18 T D_Row_numbers, PySem.W.mg_of X G a18, k18, b18⟩
  have DR_widest : DefX l.prog w K mg base 3 "widest" ["row"] (spR_widest K C) := ⟨_, _, dR_widest F34 T D_towers_of DR_towers_of, PySem.W.mg_of X G a34, k34, b34⟩
  have DR_water : DefX l.prog w K mg base 3 "water" ["row"] (spR_water K C) := ⟨_, _, dR_water F35 T DR_towers_of, PySem.W.mg_of X G a35, k35, b35⟩
  have DR_law_no_row : DefX l.prog w K mg base 5 "_law_no_row" ["row", "full", "cell"] (spR_law_no_row K C) := ⟨_, _, dR_law_no_row F36 T DR_Row DR_Row_put_in DR_joined, PySem.W.mg_of X G a36, k36, b36⟩
  have DR_law_no_place : DefX l.prog w K mg base 3 "_law_no_place" ["row", "cell", "far"] (spR_law_no_place K C) := ⟨_, _, dR_law_no_place F37 T DR_Row_set_at DR_Row_take_out DR_Row_put_in DR_Row_cut, PySem.W.mg_of X G a37, k37, b37⟩
  have DR_law_no_stretch : DefX l.prog w K mg base 3 "_law_no_stretch" ["row", "cell", "far"] (spR_law_no_stretch K C) := ⟨_, _, dR_law_no_stretch F38 T DR_least DR_Row_add_to, PySem.W.mg_of X G a38, k38, b38⟩
  have DR_law_no_tree : DefX l.prog w K mg base 47 "_law_no_tree" ["cell", "far"] (spR_law_no_tree K C) := ⟨_, _, dR_law_no_tree F39 T DR_tree_number DR_many_orders DR_order_at DR_order_number, PySem.W.mg_of X G a39, k39, b39⟩
  have DR_law_no_order : DefX l.prog w K mg base 47 "_law_no_order" ["cell", "far"] (spR_law_no_order K C) := ⟨_, _, dR_law_no_order F40 T DR_order_number, PySem.W.mg_of X G a40, k40, b40⟩
  have DR_law_no_number : DefX l.prog w K mg base 47 "_law_no_number" ["cell", "far"] (spR_law_no_number K C) := ⟨_, _, dR_law_no_number F41 T DR_many_trees DR_tree_at DR_order_at, PySem.W.mg_of X G a41, k41, b41⟩
  have DR_law_no_sky : DefX l.prog w K mg base 4 "_law_no_sky" ["cell", "far"] (spR_law_no_sky K C) := ⟨_, _, dR_law_no_sky F42 T D_Row DR_widest DR_water, PySem.W.mg_of X G a42, k42, b42⟩
  have DR_law_done : DefX l.prog w K mg base 48 "_law_done" ["way", "cell", "far", "row", "full"] (spR_law_done K C) := ⟨_, _, dR_law_done F43 T DR_law_no_row DR_law_no_place DR_law_no_stretch DR_law_no_tree DR_law_no_order DR_law_no_number DR_law_no_sky, PySem.W.mg_of X G a43, k43, b43⟩
  have DU_law_which : DefU l.prog w K mg base 1 "_law_which" ["e"] (sp_law_which K C) := ⟨_, _, dU_law_which F44 T, PySem.W.mg_of X G a44, k44, b44⟩
  exact d_law F45 T D_law_cell_at D_Row D_Row_numbers DR_law_done DU_law_which
theorem walk {l : PySem.W.OpenLaw} {q : Program} {loose : List Str} {XP : (Str → Option Value) → Heap → Prop} {YP : World → Heap → Prop} {d : DefRec} {K : Params → PySem.W.Frag} (hn : l.most = some 63) (hdf : d.params.defaults = [])
    (hY : ∀ (w : World) (h : Heap), YP w h → (K w.params).In h)
    (F : ∀ (w : World) (mg : Str → Option Value) (fa : Addr) (h : Heap), (K w.params).In h → h.Ns mainGlobals mg → mg d.name = some (.ref fa) →
      ∃ fd : FuncData, (∀ (s : Shared) (u : Value), BindsTo s fd ⟨[u], []⟩ [("script", u)]) ∧ ∀ base : Heap, (K w.params).In base → base.Ns mainGlobals mg → FnOk l.prog w (K w.params) mg base CX0 49 fa fd ["script"] (sp_law (K w.params))) :
    PySem.W.WalkO q loose XP YP l.row.toRowW d [] (fun f vs => PySem.call f vs) :=
  L2.walk_of (n := 63) (k := 49) (x := "script") (CX := fun _ => CX0) (sp := fun w => sp_law (K w.params)) hn (by decide) hdf ⟨rfl, by decide, by decide⟩ hY F (fun _ _ a ns hl ho hS => law_start hl ho hS) fun _ _ _ _ _ z => z
end Vt
theorem PySem.W.Fast.tw18094468913346582620 : True := True.intro
theorem PySem.W.Fast.tw16250710233399024704 : True := True.intro
theorem PySem.W.Fast.tw7379420773460229623 : True := True.intro
theorem PySem.W.Fast.tw16846531100042724140 : True := True.intro
theorem PySem.W.Fast.tw12349590290238705645 : True := True.intro
theorem PySem.W.Fast.tw3061587529566140242 : True := True.intro
theorem PySem.W.Fast.tw8060741440234289808 : True := True.intro
theorem PySem.W.Fast.tw3243778843023151197 : True := True.intro
theorem PySem.W.Fast.tw9572672166038142711 : True := True.intro
theorem PySem.W.Fast.tw8237122587067483430 : True := True.intro
theorem PySem.W.Fast.tw15724807094447075270 : True := True.intro
theorem PySem.W.Fast.tw5599675427856505390 : True := True.intro
theorem PySem.W.Fast.tw8627750320647660891 : True := True.intro
theorem PySem.W.Fast.tw3250929013157751223 : True := True.intro
theorem PySem.W.Fast.tw15726151553108849570 : True := True.intro
theorem PySem.W.Fast.tw16907997379373490308 : True := True.intro
open PySem PySem.W PyProof.Rows
set_option maxRecDepth 100000 in
set_option maxHeartbeats 0 in
theorem PySem.Challenge.cw_valleytree_k15_each_refusal_its_own_holds : PySem.Challenge.rw_valleytree_k15_each_refusal_its_own.Holds := by
  w_on; o_law; k_head; (case hw => w_witness2)
  k_fill
  refine Vt.walk (l := PySem.Challenge.rw_valleytree_k15_each_refusal_its_own) rfl rfl (fun w h Y => PySem.W.km_in_of Y) ?F
  case F =>
    intro w mg fa h KX G hmg
    refine' Vt.all_mk KX G hmg ?a1 ?l1 ?c1 ?k1 ?a2 ?l2 ?c2 ?k2 ?a3 ?i3 ?l3 ?c3 ?k3 ?a4 ?i4 ?l4 ?c4 ?k4 ?a5 ?l5 ?c5 ?k5 ?a6 ?l6 ?c6 ?k6 ?a7 ?l7 ?c7 ?k7 ?a8 ?l8 ?c8 ?k8 ?a9 ?l9 ?c9 ?k9 ?a10 ?l10 ?c10 ?k10 ?a11 ?l11 ?c11 ?k11 ?a12 ?l12 ?c12 ?k12 ?a13 ?l13 ?c13 ?k13 ?a14 ?l14 ?c14 ?k14 ?a15 ?l15 ?c15 ?k15 ?a16 ?l16 ?c16 ?k16 ?a17 ?l17 ?c17 ?k17 ?a18 ?l18 ?c18 ?k18 ?a19 ?l19 ?c19 ?k19 ?a20 ?l20 ?c20 ?k20 ?a21 ?i21 ?l21 ?c21 ?k21 ?a22 ?i22 ?l22 ?c22 ?k22 ?a23 ?i23 ?l23 ?c23 ?k23 ?a24 ?i24 ?l24 ?c24 ?k24 ?a25 ?i25 ?l25 ?c25 ?k25 ?a26 ?l26 ?c26 ?k26 ?a27 ?l27 ?c27 ?k27 ?a28 ?l28 ?c28 ?k28 ?a29 ?l29 ?c29 ?k29 ?a30 ?l30 ?c30 ?k30 ?a31 ?l31 ?c31 ?k31 ?a32 ?l32 ?c32 ?k32 ?a33 ?l33 ?c33 ?k33 ?a34 ?l34 ?c34 ?k34 ?a35 ?l35 ?c35 ?k35 ?a36 ?l36 ?c36 ?k36 ?a37 ?l37 ?c37 ?k37 ?a38 ?l38 ?c38 ?k38 ?a39 ?l39 ?c39 ?k39 ?a40 ?l40 ?c40 ?k40 ?a41 ?l41 ?c41 ?k41 ?a42 ?l42 ?c42 ?k42 ?a43 ?l43 ?c43 ?k43 ?a44 ?l44 ?c44 ?k44 ?a45 ?l45 ?c45 ?k45 ?aC ?pg ?hd ?po ?sa ?mk ?kc ?n_held ?g_MOST_NUMBERS ?z_ValueError ?z_min ?z_range ?z_sum ?z_enumerate ?z_sorted ?z_len ?z_any ?z_max ?z_list ?z_isinstance ?q_RowError ?x_RowError ?m_RowError ?q_NoRow ?x_NoRow ?m_NoRow ?q_NoPlace ?x_NoPlace ?m_NoPlace ?q_NoStretch ?x_NoStretch ?m_NoStretch ?q_NoTree ?x_NoTree ?m_NoTree ?q_NoOrder ?x_NoOrder ?m_NoOrder ?q_NoNumber ?x_NoNumber ?m_NoNumber ?q_NoSky ?x_NoSky ?m_NoSky ?xt
    (case aC => k_is)
    (case q_RowError => k_is)
    (case q_NoRow => k_is)
    (case q_NoPlace => k_is)
    (case q_NoStretch => k_is)
    (case q_NoTree => k_is)
    (case q_NoOrder => k_is)
    (case q_NoNumber => k_is)
    (case q_NoSky => k_is)
    (case a1 => k_is)
    (case l1 => k_is)
    (case c1 => k_is)
    (case k1 => k_is)
    (case a2 => k_is)
    (case l2 => k_is)
    (case c2 => k_is)
    (case k2 => k_is)
    (case a3 => k_is)
    (case i3 => k_is)
    (case l3 => k_is)
    (case c3 => k_is)
    (case k3 => k_is)
    (case a4 => k_is)
    (case i4 => k_is)
    (case l4 => k_is)
    (case c4 => k_is)
    (case k4 => k_is)
    (case a5 => k_is)
    (case l5 => k_is)
    (case c5 => k_is)
    (case k5 => k_is)
    (case a6 => k_is)
    (case l6 => k_is)
    (case c6 => k_is)
    (case k6 => k_is)
    (case a7 => k_is)
    (case l7 => k_is)
    (case c7 => k_is)
    (case k7 => k_is)
    (case a8 => k_is)
    (case l8 => k_is)
    (case c8 => k_is)
    (case k8 => k_is)
    (case a9 => k_is)
    (case l9 => k_is)
    (case c9 => k_is)
    (case k9 => k_is)
    (case a10 => k_is)
    (case l10 => k_is)
    (case c10 => k_is)
    (case k10 => k_is)
    (case a11 => k_is)
    (case l11 => k_is)
    (case c11 => k_is)
    (case k11 => k_is)
    (case a12 => k_is)
    (case l12 => k_is)
    (case c12 => k_is)
    (case k12 => k_is)
    (case a13 => k_is)
    (case l13 => k_is)
    (case c13 => k_is)
    (case k13 => k_is)
    (case a14 => k_is)
    (case l14 => k_is)
    (case c14 => k_is)
    (case k14 => k_is)
    (case a15 => k_is)
    (case l15 => k_is)
    (case c15 => k_is)
    (case k15 => k_is)
    (case a16 => k_is)
    (case l16 => k_is)
    (case c16 => k_is)
    (case k16 => k_is)
    (case a17 => k_is)
    (case l17 => k_is)
    (case c17 => k_is)
    (case k17 => k_is)
    (case a18 => k_is)
    (case l18 => k_is)
    (case c18 => k_is)
    (case k18 => k_is)
    (case a19 => k_is)
    (case l19 => k_is)
    (case c19 => k_is)
    (case k19 => k_is)
    (case a20 => k_is)
    (case l20 => k_is)
    (case c20 => k_is)
    (case k20 => k_is)
    (case a21 => k_is)
    (case i21 => k_is)
    (case l21 => k_is)
    (case c21 => k_is)
    (case k21 => k_is)
    (case a22 => k_is)
    (case i22 => k_is)
    (case l22 => k_is)
    (case c22 => k_is)
    (case k22 => k_is)
    (case a23 => k_is)
    (case i23 => k_is)
    (case l23 => k_is)
    (case c23 => k_is)
    (case k23 => k_is)
    (case a24 => k_is)
    (case i24 => k_is)
    (case l24 => k_is)
    (case c24 => k_is)
    (case k24 => k_is)
    (case a25 => k_is)
    (case i25 => k_is)
    (case l25 => k_is)
    (case c25 => k_is)
    (case k25 => k_is)
    (case a26 => k_is)
    (case l26 => k_is)
    (case c26 => k_is)
    (case k26 => k_is)
    (case a27 => k_is)
    (case l27 => k_is)
    (case c27 => k_is)
    (case k27 => k_is)
    (case a28 => k_is)
    (case l28 => k_is)
    (case c28 => k_is)
    (case k28 => k_is)
    (case a29 => k_is)
    (case l29 => k_is)
    (case c29 => k_is)
    (case k29 => k_is)
    (case a30 => k_is)
    (case l30 => k_is)
    (case c30 => k_is)
    (case k30 => k_is)
    (case a31 => k_is)
    (case l31 => k_is)
    (case c31 => k_is)
    (case k31 => k_is)
    (case a32 => k_is)
    (case l32 => k_is)
    (case c32 => k_is)
    (case k32 => k_is)
    (case a33 => k_is)
    (case l33 => k_is)
    (case c33 => k_is)
    (case k33 => k_is)
    (case a34 => k_is)
    (case l34 => k_is)
    (case c34 => k_is)
    (case k34 => k_is)
    (case a35 => k_is)
    (case l35 => k_is)
    (case c35 => k_is)
    (case k35 => k_is)
    (case a36 => k_is)
    (case l36 => k_is)
    (case c36 => k_is)
    (case k36 => k_is)
    (case a37 => k_is)
    (case l37 => k_is)
    (case c37 => k_is)
    (case k37 => k_is)
    (case a38 => k_is)
    (case l38 => k_is)
    (case c38 => k_is)
    (case k38 => k_is)
    (case a39 => k_is)
    (case l39 => k_is)
    (case c39 => k_is)
    (case k39 => k_is)
    (case a40 => k_is)
    (case l40 => k_is)
    (case c40 => k_is)
    (case k40 => k_is)
    (case a41 => k_is)
    (case l41 => k_is)
    (case c41 => k_is)
    (case k41 => k_is)
    (case a42 => k_is)
    (case l42 => k_is)
    (case c42 => k_is)
    (case k42 => k_is)
    (case a43 => k_is)
    (case l43 => k_is)
    (case c43 => k_is)
    (case k43 => k_is)
    (case a44 => k_is)
    (case l44 => k_is)
    (case c44 => k_is)
    (case k44 => k_is)
    (case a45 => k_is)
    (case l45 => k_is)
    (case c45 => k_is)
    (case k45 => k_is)
    (case pg => k_is)
    (case hd => k_is)
    (case po => k_is)
    (case sa => k_is)
    (case mk => k_is)
    (case kc => k_is)
    (case n_held => k_is)
    (case g_MOST_NUMBERS => k_is)
    (case z_ValueError => k_is)
    (case z_min => k_is)
    (case z_range => k_is)
    (case z_sum => k_is)
    (case z_enumerate => k_is)
    (case z_sorted => k_is)
    (case z_len => k_is)
    (case z_any => k_is)
    (case z_max => k_is)
    (case z_list => k_is)
    (case z_isinstance => k_is)
    (case x_RowError => k_exc)
    (case m_RowError => kts_exm)
    (case x_NoRow => k_exc)
    (case m_NoRow => kts_exm)
    (case x_NoPlace => k_exc)
    (case m_NoPlace => kts_exm)
    (case x_NoStretch => k_exc)
    (case m_NoStretch => kts_exm)
    (case x_NoTree => k_exc)
    (case m_NoTree => kts_exm)
    (case x_NoOrder => k_exc)
    (case m_NoOrder => kts_exm)
    (case x_NoNumber => k_exc)
    (case m_NoNumber => kts_exm)
    (case x_NoSky => k_exc)
    (case m_NoSky => kts_exm)
    (case xt => kernel_rfl)

