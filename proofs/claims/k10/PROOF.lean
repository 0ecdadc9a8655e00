import PyProof.Rows.All
import Wide.All
import OpenK.AllK
import Wide.FinOn
import Lean
import PyProof.EqAt
import PyProof.EqKinds
import PyProof.TupleCall
import PyProof.CompFree
import PySem.Challenge.RW_valleytree_k10_all_orders_of_small_trees
set_option Elab.async false
set_option linter.all false
set_option maxRecDepth 100000
set_option maxHeartbeats 4000000

namespace L2
open PySem PySem.Spec PyProof.Rows
noncomputable abbrev Key := Sum Int Str
noncomputable def keyIs : Key → Value → Bool
  | .inl k, v => Value.isInt k v
  | .inr x, v => Value.isStrOf x v
noncomputable def keyH (w : World) : Key → Int
  | .inl k => hashInt k
  | .inr x => hashStr w x
theorem keyIs_shape : ∀ {k : Key} {v : Value}, keyIs k v = true → (∃ i t, k = Sum.inl i ∧ v = Value.int i t) ∨ (∃ x t, k = Sum.inr x ∧ v = Value.str x t)
  | .inl i, v, h => by
    obtain ⟨t, e⟩ := Value.isInt_shape (k := i) (v := v) h
    exact .inl ⟨i, t, rfl, e⟩
  | .inr x, v, h => by
    obtain ⟨t, e⟩ := Value.isStrOf_shape (x := x) (v := v) h
    exact .inr ⟨x, t, rfl, e⟩
theorem key_ll (a b : Int) : decide ((Sum.inl a : Key) = Sum.inl b) = (a == b) := by
  by_cases e : a = b
  · subst e; simp
  · have h : ¬ (Sum.inl a : Key) = Sum.inl b := fun q => e (Sum.inl.inj q)
    rw [decide_eq_false h]
    exact (beq_eq_false_iff_ne.mpr e).symm
theorem key_rr (a b : Str) : decide ((Sum.inr a : Key) = Sum.inr b) = decide (a = b) := by
  by_cases e : a = b
  · subst e; simp
  · have h : ¬ (Sum.inr a : Key) = Sum.inr b := fun q => e (Sum.inr.inj q)
    rw [decide_eq_false h, decide_eq_false e]
theorem key_lr (a : Int) (b : Str) : decide ((Sum.inl a : Key) = Sum.inr b) = false := decide_eq_false (fun q => nomatch q)
theorem key_rl (a : Str) (b : Int) : decide ((Sum.inr a : Key) = Sum.inl b) = false := decide_eq_false (fun q => nomatch q)
noncomputable def mixKind (prog : Program) (w : World) : PySem.KeyKind prog w Key where
  is := keyIs
  hash := keyH w
  inj := fun v a b ha hb => by
    rcases keyIs_shape ha with ⟨i, t, rfl, rfl⟩ | ⟨x, t, rfl, rfl⟩
    · rcases keyIs_shape hb with ⟨j, u, rfl, e⟩ | ⟨y, u, rfl, e⟩
      · injection e with e1 _; rw [e1]
      · exact nomatch e
    · rcases keyIs_shape hb with ⟨j, u, rfl, e⟩ | ⟨y, u, rfl, e⟩
      · exact nomatch e
      · injection e with e1 _; rw [e1]
  byValue := fun k v h => by
    rcases keyIs_shape h with ⟨i, t, rfl, rfl⟩ | ⟨x, t, rfl, rfl⟩ <;> rfl
  pyHash := fun hv h => by
    rcases keyIs_shape hv with ⟨i, t, rfl, rfl⟩ | ⟨x, t, rfl, rfl⟩
    · exact wpAny_pyHash_int h
    · exact wpAny_pyHash_str h
  eqBool := fun hu hv h => by
    rcases keyIs_shape hu with ⟨i, t, rfl, rfl⟩ | ⟨x, t, rfl, rfl⟩
    · rcases keyIs_shape hv with ⟨j, u, rfl, rfl⟩ | ⟨y, u, rfl, rfl⟩
      · rw [key_ll] at h; exact wpAny_eqBool_int h
      · rw [key_lr] at h; exact SeqAt.EqAt.int_str i t y u _ _ _ _ h
    · rcases keyIs_shape hv with ⟨j, u, rfl, rfl⟩ | ⟨y, u, rfl, rfl⟩
      · rw [key_rl] at h; exact SeqAt.EqAt.str_int x t j u _ _ _ _ h
      · rw [key_rr] at h; exact wpAny_eqBool_str h
  «strs» := fun k x t v h => by
    rcases keyIs_shape h with ⟨i, u, rfl, e⟩ | ⟨y, u, rfl, e⟩
    · exact nomatch e
    · injection e with e1 _
      subst e1
      cases v <;> rfl
end L2
namespace L2
open PySem PySem.Spec PyProof.Rows
inductive V where
  | non | bl (b : Bool) | int (i : Int) | str (x : Str) | byt (b : Array UInt8) | flt (b : UInt64) | ref (a : Addr) | ty (n : String)
  deriving DecidableEq
noncomputable def RelV : V → Value → Prop
  | .non, u => u = Value.none
  | .bl b, u => u = Value.bool b
  | .int i, u => ∃ t, u = Value.int i t
  | .str x, u => ∃ t, u = Value.str x t
  | .byt b, u => ∃ t, u = Value.bytes b t
  | .flt b, u => ∃ t, u = Value.float b t
  | .ref a, u => u = Value.ref a
  | .ty n, u => u = Value.type n
noncomputable abbrev Vals : List V → List Value → Prop := Paired RelV
theorem Vals.length {xs : List V} {us : List Value} (r : Vals xs us) : xs.length = us.length := Paired.length r
theorem Vals.get : ∀ {xs : List V} {us : List Value} {i : Nat} {x : V}, Vals xs us → xs[i]? = some x → ∃ u, us[i]? = some u ∧ RelV x u
  | _, _, _, _, .nil, e => by simp at e
  | _, _, 0, _, .cons r _, e => by simp at e; subst e; exact ⟨_, rfl, r⟩
  | _, _, i + 1, x, .cons _ t, e => by
    obtain ⟨u, h1, h2⟩ := Vals.get (i := i) (x := x) t (by simpa using e)
    exact ⟨u, by simpa using h1, h2⟩
theorem Vals.set {x : V} {u : Value} (r : RelV x u) : ∀ {xs : List V} {us : List Value} (i : Nat), Vals xs us → Vals (xs.set i x) (us.set i u)
  | _, _, _, .nil => .nil
  | _, _, 0, .cons _ t => .cons r t
  | _, _, i + 1, .cons q t => .cons q (Vals.set r i t)
theorem Vals.append : ∀ {xs ys : List V} {us ws : List Value}, Vals xs us → Vals ys ws → Vals (xs ++ ys) (us ++ ws)
  | _, _, _, _, .nil, s => s
  | _, _, _, _, .cons r t, s => .cons r (Vals.append t s)
theorem Vals.take : ∀ {xs : List V} {us : List Value} (n : Nat), Vals xs us → Vals (xs.take n) (us.take n)
  | _, _, 0, _ => .nil
  | _, _, _ + 1, .nil => .nil
  | _, _, n + 1, .cons r t => .cons r (Vals.take n t)
theorem Vals.drop : ∀ {xs : List V} {us : List Value} (n : Nat), Vals xs us → Vals (xs.drop n) (us.drop n)
  | _, _, 0, r => r
  | _, _, _ + 1, .nil => .nil
  | _, _, n + 1, .cons _ t => Vals.drop n t
noncomputable def RelO : Option V → Option Value → Prop
  | some v, some u => RelV v u
  | none, none => True
  | _, _ => False
noncomputable def KV {κ : Type} : List (κ × V) → List (κ × Value) → Prop := Paired fun (p : κ × V) (q : κ × Value) => p.1 = q.1 ∧ RelV p.2 q.2
noncomputable def kV : Key → V
  | .inl i => .int i
  | .inr x => .str x
inductive HO where
  | lst (xs : List V)
  | tup (xs : List V)
  | dK (kvs : List (Key × V)) | dT (kvs : List (List Key × V))
  | set (S : Int → Bool) (n : Nat)
  | ins (C dx : Addr) (fs : List (Str × V))
  | own (x : Addr)
  | xd (fs : List (Str × V))
  | met (f x : Addr)
  | rng (lo hi : Int)
  | frz (o : Obj) (u : HO)
  | tbl (ps : Array Value)
  | ext (φ : Heap → Prop)
noncomputable abbrev Hp := Addr → Option HO
noncomputable def upd (H : Hp) (a : Addr) (o : HO) : Hp := fun b => if b = a then some o else H b
theorem upd_same {H : Hp} {a : Addr} {o : HO} : upd H a o a = some o := by unfold upd; rw [if_pos rfl]
theorem upd_ne {H : Hp} {a b : Addr} {o : HO} (h : b ≠ a) : upd H a o b = H b := by unfold upd; rw [if_neg h]
theorem ne_of {H : Hp} {a b : Addr} {o u : HO} (h : H a = some o) (h' : H b = some u) (d : o ≠ u) : a ≠ b := by
  intro e; subst e; rw [h] at h'; exact d (Option.some.inj h')
theorem ne_of_none {H : Hp} {a b : Addr} {o : HO} (h : H a = some o) (h' : H b = none) : a ≠ b := by
  intro e; subst e; rw [h] at h'; cases h'
section
variable (P : Program) (w : World)
noncomputable def ObjOk (H : Hp) (h : Heap) (a : Addr) : HO → Prop
  | .lst xs => xs.length ≤ sizeLine ∧ ∃ (its : List Value) (n : Nat), Vals xs its ∧ h.get? a = some { cls := .type "list", data := .seq its.toArray n }
  | .tup xs => xs.length ≤ sizeLine ∧ ∃ its : List Value, Vals xs its ∧ IsTup h a its.toArray
  | .dK kvs => kvs.length ≤ sizeLine ∧ (a == sysModules) = false ∧ ∃ vs, KV kvs vs ∧ h.DictOf (mixKind P w) a vs
  | .dT kvs => kvs.length ≤ sizeLine ∧ (a == sysModules) = false ∧ ∃ xs : List (List Key × Addr × Value),
      Paired (fun (p : List Key × V) (q : List Key × Addr × Value) => p.1 = q.1 ∧ H q.2.1 = some (.tup (p.1.map kV)) ∧ RelV p.2 q.2.2) kvs xs ∧
      ∃ o es ep, h.get? a = some o ∧ o.ExactDict ∧ o.data = .dict es ep ∧ es.toList = xs.map (entryOfKey (tupleKind (mixKind P w))) ∧ (xs.map (·.1)).Nodup
  | .set S n => h.SetOf (intKind P w) a S n
  | .ins C dx fs => H dx = some (.own a) ∧ fs.length ≤ 1000 ∧ dx ≠ a ∧ h.get? a = some (PySem.W.instObj C dx) ∧
      ∃ mA, h.Ns1 dx mA ∧ (∀ f, RelO (fs.lookup f) (mA f)) ∧ PySem.Within mA (fs.map (·.1))
  | .own _ => ∃ o, h.get? a = some o
  | .xd fs => ∃ mA, h.Ns1 a mA ∧ ∀ f, RelO (fs.lookup f) (mA f)
  | .rng lo hi => ∃ t u v, h.get? a = some { cls := .type "range", data := .fields #[.int lo t, .int hi u, .int 1 v] }
  | .frz o u => h.get? a = some o ∧ ObjOk H h a u
  | .tbl ps => h.get? a = some { cls := .none, data := .fields ps }
  | .met f x => h.get? a = some (PySem.W.methodObj (.ref f) (.ref x))
  | .ext φ => φ h ∧ (∃ o, h.get? a = some o) ∧ ∀ h1 h2 : Heap, φ h1 → (∀ o, h1.get? a = some o → h2.get? a = some o) → φ h2
noncomputable def HOk (H : Hp) (h : Heap) : Prop := ∀ a o, H a = some o → ObjOk P w H h a o
end
section
variable {P : Program} {w : World} {H H' : Hp} {h h' : Heap} {a : Addr} {o : HO}
theorem ObjOk.lt (x : ObjOk P w H h a o) : a < h.objs.size := by
  cases o with
  | lst xs => obtain ⟨_, _, _, _, e⟩ := x; exact Heap.lt_size e
  | tup xs => obtain ⟨_, _, _, p⟩ := x; exact p.lt
  | dK kvs => obtain ⟨_, _, _, _, o, _, _, e, _⟩ := x; exact Heap.lt_size e
  | dT kvs => obtain ⟨_, _, _, _, o, _, _, e, _⟩ := x; exact Heap.lt_size e
  | set S n => obtain ⟨o, _, _, _, e, _⟩ := x; exact Heap.lt_size e
  | ins C dx fs => obtain ⟨_, _, _, e, _⟩ := x; exact Heap.lt_size e
  | own y => obtain ⟨_, e⟩ := x; exact Heap.lt_size e
  | xd fs => obtain ⟨_, ⟨_, _, _, e, _⟩, _⟩ := x; exact Heap.lt_size e
  | rng lo hi => obtain ⟨_, _, _, e⟩ := x; exact Heap.lt_size e
  | frz ob u => obtain ⟨e, _⟩ := x; exact Heap.lt_size e
  | tbl ps => exact Heap.lt_size (show h.get? a = some _ from x)
  | met f y => exact Heap.lt_size (show h.get? a = some _ from x)
  | ext φ => obtain ⟨_, ⟨_, e⟩, _⟩ := x; exact Heap.lt_size e
theorem Paired.mapP {α β : Type} {F G : α → β → Prop} : ∀ {l₁ : List α} {l₂ : List β}, Paired F l₁ l₂ → (∀ a b, F a b → G a b) → Paired G l₁ l₂
  | _, _, .nil, _ => .nil
  | _, _, .cons r t, f => .cons (f _ _ r) (Paired.mapP t f)
theorem ObjOk.stay (x : ObjOk P w H h a o) (k : ∀ b u, (b = a ∨ H b = some (.own a)) → h.get? b = some u → h'.get? b = some u)
    (ho : ∀ b, H b = some (.own a) → H' b = some (.own a)) (ht : ∀ b xs, H b = some (.tup xs) → H' b = some (.tup xs)) : ObjOk P w H' h' a o := by
  induction o with
  | lst xs => obtain ⟨z, its, n, r, e⟩ := x; exact ⟨z, its, n, r, k _ _ (.inl rfl) e⟩
  | tup xs => obtain ⟨z, its, r, ob, e, c⟩ := x; exact ⟨z, its, r, ob, k _ _ (.inl rfl) e, c⟩
  | dK kvs => obtain ⟨z, y, vs, r, ob, es, ep, e, c⟩ := x; exact ⟨z, y, vs, r, ob, es, ep, k _ _ (.inl rfl) e, c⟩
  | dT kvs =>
    obtain ⟨z, y, xs, r, ob, es, ep, e, c⟩ := x
    exact ⟨z, y, xs, Paired.mapP r fun p q z => ⟨z.1, ht _ _ z.2.1, z.2.2⟩, ob, es, ep, k _ _ (.inl rfl) e, c⟩
  | set S n => obtain ⟨ob, es, ep, t, e, c⟩ := x; exact ⟨ob, es, ep, t, k _ _ (.inl rfl) e, c⟩
  | ins C dx fs =>
    obtain ⟨d, z, ne, e, mA, ⟨od, es, ep, e2, c⟩, r⟩ := x
    exact ⟨ho _ d, z, ne, k _ _ (.inl rfl) e, mA, ⟨od, es, ep, k _ _ (.inr d) e2, c⟩, r⟩
  | own y => obtain ⟨ob, e⟩ := x; exact ⟨ob, k _ _ (.inl rfl) e⟩
  | xd fs => obtain ⟨mA, ⟨od, es, ep, e, c⟩, r⟩ := x; exact ⟨mA, ⟨od, es, ep, k _ _ (.inl rfl) e, c⟩, r⟩
  | rng lo hi => obtain ⟨t, u, v, e⟩ := x; exact ⟨t, u, v, k _ _ (.inl rfl) e⟩
  | frz ob u ih => obtain ⟨e, q⟩ := x; exact ⟨k _ _ (.inl rfl) e, ih q⟩
  | tbl ps =>
    have e : h.get? a = some { cls := .none, data := .fields ps } := x
    show h'.get? a = some { cls := .none, data := .fields ps }
    exact k a _ (.inl rfl) e
  | met f y =>
    have e : h.get? a = some (PySem.W.methodObj (.ref f) (.ref y)) := x
    show h'.get? a = some (PySem.W.methodObj (.ref f) (.ref y))
    exact k a _ (.inl rfl) e
  | ext φ => obtain ⟨p, ⟨o, e⟩, st⟩ := x; exact ⟨st _ _ p fun o q => k _ _ (.inl rfl) q, ⟨o, k _ _ (.inl rfl) e⟩, st⟩
theorem HOk.lt (x : HOk P w H h) (e : H a = some o) : a < h.objs.size := (x a o e).lt
theorem HOk.fresh (x : HOk P w H h) (e : h.objs.size ≤ a) : H a = none := by
  cases q : H a with
  | none => rfl
  | some u => exact absurd (Nat.lt_of_lt_of_le (x.lt q) e) (Nat.lt_irrefl _)
theorem HOk.kept (x : HOk P w H h) (k : ∀ b u, h.get? b = some u → h'.get? b = some u) : HOk P w H h' := fun a o e =>
  (x a o e).stay (fun b u _ q => k b u q) (fun _ q => q) fun _ _ q => q
theorem HOk.laid (x : HOk P w H h) (k : ∀ b u, h.get? b = some u → h'.get? b = some u) (hp : h.objs.size ≤ a) (new : ObjOk P w (upd H a o) h' a o) : HOk P w (upd H a o) h' := fun b u e => by
  have hn := x.fresh hp
  by_cases hb : b = a
  · subst hb; rw [upd_same] at e; cases e; exact new
  · rw [upd_ne hb] at e
    exact (x b u e).stay (fun c v _ q => k c v q) (fun c q => by rw [upd_ne (ne_of_none q hn)]; exact q) fun c xs q => by rw [upd_ne (ne_of_none q hn)]; exact q
end
noncomputable def Rd (H : Hp) (a : Addr) (u : HO) : Prop := H a = some u ∨ ∃ o, H a = some (.frz o u)
theorem Rd.ok {P : Program} {w : World} {H : Hp} {h : Heap} {a : Addr} {u : HO} (r : Rd H a u) (x : HOk P w H h) : ObjOk P w H h a u := by
  rcases r with r | ⟨o, r⟩
  · exact x a u r
  · obtain ⟨_, q⟩ := x a _ r
    exact q
noncomputable def Mut : Option HO → Prop
  | some (.lst _) => True
  | some (.dK _) => True
  | some (.dT _) => True
  | some (.set _ _) => True
  | some (.ins _ _ _) => True
  | some (.ext _) => True
  | _ => False
section
variable {P : Program} {w : World} {H : Hp} {h h' : Heap} {x e : Addr} {o' : HO}
theorem HOk.write (ok : HOk P w H h) (mu : Mut (H x)) (he : e = x ∨ H e = some (.own x)) (k : ∀ b u, b ≠ e → h.get? b = some u → h'.get? b = some u) (heo : ∃ u, h'.get? e = some u)
    (new : ObjOk P w (upd H x o') h' x o') : HOk P w (upd H x o') h' := fun b u q => by
  have nown : ∀ c y, H c = some (.own y) → c ≠ x := fun c y r z => by subst z; rw [r] at mu; exact mu
  have ntup : ∀ c xs, H c = some (.tup xs) → c ≠ x := fun c xs r z => by subst z; rw [r] at mu; exact mu
  by_cases hb : b = x
  · subst hb; rw [upd_same] at q; cases q; exact new
  · rw [upd_ne hb] at q
    by_cases hbe : b = e
    · have q' : H b = some (.own x) := by
        rcases he with z | z
        · exact absurd (hbe.trans z) hb
        · rw [hbe]; exact z
      rw [q] at q'; cases q'
      obtain ⟨v, hv⟩ := heo
      exact ⟨v, by rw [hbe]; exact hv⟩
    · refine (ok b u q).stay (fun c v hc r => k c v ?_ r) (fun c r => by rw [upd_ne (nown c b r)]; exact r) fun c xs r => by rw [upd_ne (ntup c xs r)]; exact r
      rcases hc with rfl | hc
      · exact hbe
      · rintro rfl
        rcases he with z | z
        · exact nown c b hc z
        · rw [hc] at z; cases z; exact hb rfl
end
structure Un (fs ex : List Addr) (H H' : Hp) (h h' : Heap) : Prop where
  keep : ∀ b o, h.get? b = some o → H b = none → b ∉ fs → b ∉ ex → h'.get? b = some o
  slot : ∀ b o, h.get? b = some o → H b = none → b ∈ fs → b ∉ ex → ∃ sl, h'.get? b = some { o with slots := sl }
  free : ∀ b o, h.get? b = some o → H b = none → b ∉ ex → H' b = none
  there : ∀ b o, h.get? b = some o → b ∉ ex → ∃ o', h'.get? b = some o'
  tups : ∀ b xs, H b = some (.tup xs) → H' b = some (.tup xs)
  frzs : ∀ b o u, H b = some (.frz o u) → H' b = some (.frz o u)
  tbls : ∀ b ps, H b = some (.tbl ps) → ∃ more, H' b = some (.tbl (ps ++ more))
section
variable {fs fs' ex ex' : List Addr} {H H1 H2 : Hp} {h h1 h2 h' : Heap} {a x e : Addr} {o : HO}
theorem Un.any (u : Un fs ex H H1 h h1) {b : Addr} {ob : Obj} (q : h.get? b = some ob) (n : H b = none) (hx : b ∉ ex) : ∃ sl, h1.get? b = some { ob with slots := sl } := by
  by_cases hb : b ∈ fs
  · exact u.slot b ob q n hb hx
  · exact ⟨ob.slots, u.keep b ob q n hb hx⟩
theorem Un.kept (k : ∀ b u, h.get? b = some u → h'.get? b = some u) : Un fs ex H H h h' :=
  ⟨fun b ob q _ _ _ => k b ob q, fun b ob q _ _ _ => ⟨ob.slots, k b ob q⟩, fun _ _ _ n _ => n, fun b ob q _ => ⟨ob, k b ob q⟩, fun _ _ q => q, fun _ _ _ q => q, fun _ ps q => ⟨#[], by rw [q]; simp⟩⟩
theorem Un.refl : Un fs ex H H h h := Un.kept fun _ _ q => q
theorem Un.laid (k : ∀ b u, h.get? b = some u → h'.get? b = some u) (hp : h.objs.size ≤ a) (hn : H a = none) : Un fs ex H (upd H a o) h h' where
  keep := fun b u q _ _ _ => k b u q
  slot := fun b u q _ _ _ => ⟨u.slots, k b u q⟩
  free := fun b u q n _ => by rw [upd_ne (Nat.ne_of_lt (Nat.lt_of_lt_of_le (Heap.lt_size q) hp))]; exact n
  there := fun b u q _ => ⟨u, k b u q⟩
  tups := fun b xs q => by rw [upd_ne (ne_of_none q hn)]; exact q
  frzs := fun b u xs q => by rw [upd_ne (ne_of_none q hn)]; exact q
  tbls := fun b ps q => ⟨#[], by rw [upd_ne (ne_of_none q hn), q]; simp⟩
theorem Un.write (mu : Mut (H x)) (he : e = x ∨ H e = some (.own x)) (k : ∀ b u, b ≠ e → h.get? b = some u → h'.get? b = some u) (heo : ∃ u, h'.get? e = some u) : Un fs ex H (upd H x o) h h' := by
  have hx : ∀ b, H b = none → b ≠ x := fun b n z => by subst z; rw [n] at mu; exact mu
  have hb : ∀ b, H b = none → b ≠ e := fun b n z => by
    subst z
    rcases he with r | r
    · exact hx b n r
    · rw [n] at r; cases r
  have hm : ∀ b u, H b = some u → ¬ Mut (some u) → b ≠ x := fun b u q nm z => by subst z; rw [q] at mu; exact nm mu
  refine ⟨fun b u q n _ _ => k b u (hb b n) q, fun b u q n _ _ => ⟨u.slots, k b u (hb b n) q⟩, fun b u q n _ => by rw [upd_ne (hx b n)]; exact n, fun b u q _ => ?_,
    fun b xs q => by rw [upd_ne (hm b _ q fun z => z)]; exact q, fun b u xs q => by rw [upd_ne (hm b _ q fun z => z)]; exact q, fun b ps q => ⟨#[], by rw [upd_ne (hm b _ q fun z => z), q]; simp⟩⟩
  by_cases hbe : b = e
  · subst hbe; exact heo
  · exact ⟨u, k b u hbe q⟩
end
noncomputable def trk (h : Heap) (H : Hp) : List Addr := (List.range h.objs.size).filter fun a => (H a).isSome
noncomputable def hidT (h : Heap) (H : Hp) : Heap := PySem.W.hideAll h (trk h H)
theorem hidT_size (h : Heap) (H : Hp) : (hidT h H).objs.size = h.objs.size := PySem.W.hideAll_size _ _
theorem hidT_get {h : Heap} {H : Hp} {b : Addr} {o : Obj} (e : h.get? b = some o) (n : H b = none) : (hidT h H).get? b = some o :=
  PySem.W.hideAll_get _ e fun hm => by
    have q : (H b).isSome = true := (List.mem_filter.mp hm).2
    rw [n] at q; simp at q
theorem of_hidT {h : Heap} {H : Hp} {b : Addr} {o : Obj} (e : (hidT h H).get? b = some o) : h.get? b = some o ∧ H b = none := by
  have e' : h.get? b = some o := PySem.W.of_hideAll (trk h H) e
  refine ⟨e', ?_⟩
  cases q : H b with
  | none => rfl
  | some x =>
    have hm : b ∈ trk h H := List.mem_filter.mpr ⟨List.mem_range.mpr (Heap.lt_size e'), by simp [q]⟩
    have z : (hidT h H).get? b = none := PySem.W.hideAll_none (trk h H) hm
    rw [z] at e; cases e
end L2
namespace L2
open PySem PySem.Spec PyProof.Rows
structure Mod (K : PySem.W.Frag) (mg : Str → Option Value) (base : Heap) : Prop where
  kin : K.In base
  glob : base.Ns mainGlobals mg
  blt : ∃ mb, base.Ns builtinsNs mb ∧ ∀ x : Str, x ≠ "__name__" → mb x = bootBuiltins x
  nolimit : base.NoLimit
structure Cx where
  prog : Program
  w : World
  K : PySem.W.Frag
  mg : Str → Option Value
  base : Heap
  A : Around
  N : List Str
  s₀ : Shared
  H₀ : Hp
  env : Env
  outer : List Env
  stack : List Env
  ex : List Addr
  fn : Str → Bool
  calm : Bool
  pn : List (Addr × Obj)
  xe : Value → Shared → Prop
noncomputable def frs (l : List Env) : List Addr := l.filterMap (·.frame)
noncomputable abbrev Cx.fs (X : Cx) : List Addr := frs X.outer
noncomputable def Vis (sc : Scope) (x : Str) : Prop := sc.names.lookup x = some .local ∨ sc.names.lookup x = some .cell ∨ sc.names.lookup x = some .free
noncomputable def Loc (sc : Scope) (x : Str) : Prop := sc.names.lookup x = some .local ∨ sc.names.lookup x = some .cell
noncomputable def Look (env : Env) (h : Heap) (m : Str → Option Value) (x : Str) (u : Value) : Prop :=
  (env.kindOf x = some .local ∧ m x = some u) ∨ ((env.kindOf x = some .cell ∨ env.kindOf x = some .free) ∧ ∃ c, env.cells.lookup x = some c ∧ h.IsCell c (some u))
structure Cx.Ok (X : Cx) : Prop where
  mod : Mod X.K X.mg X.base
  kind : X.env.scope.kind = .function
  glob : X.env.globals = mainGlobals
  blt : X.env.builtins = builtinsNs
  above : X.s₀.heap.objs.size ≤ X.env.locals
  inj : ∀ x y c, X.env.cells.lookup x = some c → X.env.cells.lookup y = some c → x = y
  has : ∀ x, (X.env.kindOf x = some .cell ∨ X.env.kindOf x = some .free) → ∃ c, X.env.cells.lookup x = some c
  cab : ∀ x c, X.fn x = true → X.env.cells.lookup x = some c → X.s₀.heap.objs.size ≤ c
  hd : X.calm = true → X.A.handled = none
  frames : X.A.frames = some X.stack
  stk : X.stack = X.outer ∨ (X.stack = X.env :: X.outer ∧ X.env.frame = some X.env.locals)
  exf : ∀ b ∈ X.ex, b ≠ X.env.locals ∧ ∀ x c, X.env.cells.lookup x = some c → c ≠ b
  bs : ∀ b o, X.base.get? b = some o → X.s₀.heap.get? b = some o ∧ X.H₀ b = none
  bsz : X.base.objs.size ≤ X.s₀.heap.objs.size
  noex : ∀ b o, X.base.get? b = some o → b ∉ X.ex
  exfs : ∀ b ∈ X.ex, b ∉ X.fs
  funs : X.s₀.heap.FunFrames X.base X.outer
  frf : ∀ b ∈ X.fs, X.H₀ b = none
structure Inv (X : Cx) (pins : List (Addr × Obj)) (σ : List (Option V)) (H : Hp) (s : Shared) : Prop where
  ok : X.Ok
  os : s.os = X.s₀.os
  bare : AllBare s.gens
  base : Un X.fs X.ex X.H₀ H X.s₀.heap s.heap
  loc : ∃ m, s.heap.Ns X.env.locals m ∧ ∀ (i : Nat) (x : Str) (v : V), X.N[i]? = some x → σ[i]? = some (some v) → Vis X.env.scope x → ∃ u, RelV v u ∧ Look X.env s.heap m x u
  cell : ∀ x c, X.env.cells.lookup x = some c → ∃ v, s.heap.IsCell c v
  free : H X.env.locals = none
  freeC : ∀ x c, X.env.cells.lookup x = some c → H c = none
  pin : ∀ p ∈ X.pn ++ pins, s.heap.get? p.1 = some p.2 ∧ H p.1 = none ∧ p.1 ≠ X.env.locals ∧ p.1 ∉ X.fs ∧ ∀ v, p.2.data ≠ .cell v
  hok : HOk X.prog X.w H s.heap
  len : σ.length = X.N.length
section
variable {X : Cx} {pins : List (Addr × Obj)} {σ : List (Option V)} {H H' : Hp} {s : Shared} {h' : Heap}
theorem Cx.Ok.nofr (ok : X.Ok) {b : Addr} {o : Obj} (e : X.base.get? b = some o) : b ∉ X.fs := fun hb => by
  have := (ok.funs.mem hb).1
  rw [e] at this; cases this
theorem Inv.bs (I : Inv X pins σ H s) : ∀ b o, X.base.get? b = some o → s.heap.get? b = some o ∧ H b = none := fun b o e =>
  ⟨I.base.keep b o (I.ok.bs b o e).1 (I.ok.bs b o e).2 (I.ok.nofr e) (I.ok.noex b o e), I.base.free b o (I.ok.bs b o e).1 (I.ok.bs b o e).2 (I.ok.noex b o e)⟩
theorem Inv.bk (I : Inv X pins σ H s) : ∀ b o, X.base.get? b = some o → s.heap.get? b = some o := fun b o e => (I.bs b o e).1
theorem Inv.mod (I : Inv X pins σ H s) : Mod X.K X.mg X.base := I.ok.mod
theorem Inv.kIn (I : Inv X pins σ H s) : X.K.In s.heap := I.ok.mod.kin.keeps I.bk
theorem Inv.lt (I : Inv X pins σ H s) : X.env.locals < s.heap.objs.size := let ⟨_, hn, _⟩ := I.loc; hn.lt
theorem Inv.sz (I : Inv X pins σ H s) : X.s₀.heap.objs.size ≤ s.heap.objs.size := Nat.le_trans I.ok.above (Nat.le_of_lt I.lt)
theorem Inv.nofs (I : Inv X pins σ H s) {a : Addr} (h : s.heap.objs.size ≤ a) : a ∉ X.fs := fun hb => by
  obtain ⟨_, o, ho, _⟩ := I.ok.funs.mem hb
  exact absurd (Nat.lt_of_lt_of_le (Heap.lt_size ho) (Nat.le_trans I.sz h)) (Nat.lt_irrefl _)
theorem Inv.cne (I : Inv X pins σ H s) : ∀ x c, X.env.cells.lookup x = some c → c ≠ X.env.locals := fun x c e z => by
  obtain ⟨v, o, ho, hd⟩ := I.cell x c e
  obtain ⟨m, ⟨o', es, ep, ho', hd', _⟩, _⟩ := I.loc
  rw [z, ho'] at ho; cases ho; rw [hd'] at hd; cases hd
theorem Inv.funs (I : Inv X pins σ H s) : s.heap.FunFrames X.base X.outer := by
  have all : ∀ (l : List Env), (∀ b ∈ frs l, b ∈ X.fs) → X.s₀.heap.FunFrames X.base l → s.heap.FunFrames X.base l := by
    intro l
    induction l with
    | nil => intro _ _; trivial
    | cons env r ih =>
      intro hs hl
      obtain ⟨hk, ⟨L, o, hf, hn, ho, hd⟩, hr⟩ := hl
      have hL : L ∈ X.fs := hs L (by unfold frs; rw [List.filterMap_cons, hf]; exact List.mem_cons_self)
      obtain ⟨sl, e⟩ := I.base.slot L o ho (I.ok.frf L hL) hL fun z => I.ok.exfs L z hL
      exact ⟨hk, ⟨L, _, hf, hn, e, hd⟩, ih (fun b hb => hs b (by unfold frs; rw [List.filterMap_cons, hf]; exact List.mem_cons_of_mem _ hb)) hr⟩
  exact all X.outer (fun _ hb => hb) I.ok.funs
theorem Inv.stack (I : Inv X pins σ H s) : s.heap.FunFrames X.base X.stack := by
  rcases I.ok.stk with e | ⟨e, hf⟩
  · rw [e]; exact I.funs
  · rw [e]
    obtain ⟨m, hn, _⟩ := I.loc
    refine .cons (by rw [I.ok.kind]; decide) hf hn ?_ I.funs
    exact Heap.get?_none_of_le (Nat.le_trans I.ok.bsz I.ok.above)
theorem Inv.stkSub (I : Inv X pins σ H s) : ∀ b ∈ frs X.stack, b ∈ X.env.locals :: X.fs := fun b hb => by
  rcases I.ok.stk with e | ⟨e, hf⟩
  · rw [e] at hb; exact List.mem_cons_of_mem _ hb
  · rw [e] at hb
    unfold frs at hb
    rw [List.filterMap_cons, hf] at hb
    exact hb
theorem Inv.stkFree (I : Inv X pins σ H s) : ∀ b ∈ frs X.stack, H b = none := fun b hb => by
  rcases List.mem_cons.mp (I.stkSub b hb) with e | hb
  · rw [e]; exact I.free
  · obtain ⟨_, o, ho, _⟩ := I.ok.funs.mem hb
    exact I.base.free b o ho (I.ok.frf b hb) fun z => I.ok.exfs b z hb
theorem Inv.step {g' : Array GenState} {t' : Nat} {d' : Drawn} {ch : List Addr} (I : Inv X pins σ H s)
    (hch : ∀ b ∈ ch, (b ∈ X.ex ∨ X.s₀.heap.objs.size ≤ b) ∧ b ≠ X.env.locals ∧ (∀ x c, X.env.cells.lookup x = some c → c ≠ b) ∧ ∀ p ∈ X.pn ++ pins, p.1 ≠ b)
    (keep : ∀ b o, b ≠ X.env.locals → b ∉ X.fs → b ∉ ch → s.heap.get? b = some o → H b = none → h'.get? b = some o)
    (slot : ∀ b o, b ≠ X.env.locals → b ∈ X.fs → b ∉ ch → s.heap.get? b = some o → H b = none → ∃ sl, h'.get? b = some { o with slots := sl }) (free : ∀ b o, b ∉ ch → s.heap.get? b = some o → H b = none → H' b = none)
    (there : ∀ b o, b ∉ ch → s.heap.get? b = some o → ∃ o', h'.get? b = some o')
    (tups : ∀ b xs, H b = some (.tup xs) → H' b = some (.tup xs)) (frzs : ∀ b o u, H b = some (.frz o u) → H' b = some (.frz o u)) (tbls : ∀ b ps, H b = some (.tbl ps) → ∃ more, H' b = some (.tbl (ps ++ more)))
    (ns : ∀ m, s.heap.Ns X.env.locals m → h'.Ns X.env.locals m) (hok : HOk X.prog X.w H' h') (hg : AllBare g') :
    Inv X pins σ H' { s with heap := h', gens := g', drawn := d', toks := t' } := by
  have neL : ∀ b o, X.s₀.heap.get? b = some o → b ≠ X.env.locals := fun b o e => Nat.ne_of_lt (Nat.lt_of_lt_of_le (Heap.lt_size e) I.ok.above)
  have neC : ∀ b o, X.s₀.heap.get? b = some o → b ∉ X.ex → b ∉ ch := fun b o e hx hb => by
    rcases (hch b hb).1 with z | z
    · exact hx z
    · exact absurd (Nat.lt_of_lt_of_le (Heap.lt_size e) z) (Nat.lt_irrefl _)
  have cellK : ∀ x c, X.env.cells.lookup x = some c → ∀ v, s.heap.IsCell c v → h'.IsCell c v := fun x c e v ⟨o, ho, hd⟩ => by
    have nch : c ∉ ch := fun z => (hch c z).2.2.1 x c e rfl
    by_cases hc : c ∈ X.fs
    · obtain ⟨sl, q⟩ := slot c o (I.cne x c e) hc nch ho (I.freeC x c e)
      exact ⟨_, q, hd⟩
    · exact ⟨o, keep c o (I.cne x c e) hc nch ho (I.freeC x c e), hd⟩
  refine ⟨I.ok, I.os, hg, ⟨fun b o e n hb hx => ?_, fun b o e n hb hx => ?_, fun b o e n hx => ?_, fun b o e hx => ?_, fun b xs e => tups b xs (I.base.tups b xs e), fun b o xs e => frzs b o xs (I.base.frzs b o xs e), fun b ps e => ?_⟩, ?_, fun x c e => ?_, ?_, fun x c e => ?_, fun p hp => ?_, hok, I.len⟩
  · exact keep b o (neL b o e) hb (neC b o e hx) (I.base.keep b o e n hb hx) (I.base.free b o e n hx)
  · obtain ⟨sl, e1⟩ := I.base.slot b o e n hb hx
    obtain ⟨sl', e2⟩ := slot b _ (neL b o e) hb (neC b o e hx) e1 (I.base.free b o e n hx)
    exact ⟨sl', e2⟩
  · obtain ⟨o', e1⟩ := I.base.there b o e hx
    exact free b o' (neC b o e hx) e1 (I.base.free b o e n hx)
  · obtain ⟨o', e1⟩ := I.base.there b o e hx
    exact there b o' (neC b o e hx) e1
  · obtain ⟨m1, e1⟩ := I.base.tbls b ps e
    obtain ⟨m2, e2⟩ := tbls b _ e1
    exact ⟨m1 ++ m2, by rw [e2, Array.append_assoc]⟩
  · obtain ⟨m, hn, hl⟩ := I.loc
    refine ⟨m, ns m hn, fun i x v e1 e2 e3 => ?_⟩
    obtain ⟨u, r, l⟩ := hl i x v e1 e2 e3
    refine ⟨u, r, ?_⟩
    rcases l with l | ⟨k, c, e, z⟩
    · exact .inl l
    · exact .inr ⟨k, c, e, cellK x c e _ z⟩
  · obtain ⟨v, z⟩ := I.cell x c e
    exact ⟨v, cellK x c e v z⟩
  · obtain ⟨m, ⟨o, _, _, ho, _⟩, _⟩ := I.loc
    exact free _ o (fun z => (hch _ z).2.1 rfl) ho I.free
  · obtain ⟨v, o, ho, hd⟩ := I.cell x c e
    exact free c o (fun z => (hch c z).2.2.1 x c e rfl) ho (I.freeC x c e)
  · obtain ⟨e, n, ne, nf, d⟩ := I.pin p hp
    have nch : p.1 ∉ ch := fun z => (hch p.1 z).2.2.2 p hp rfl
    exact ⟨keep p.1 p.2 ne nf nch e n, free p.1 p.2 nch e n, ne, nf, d⟩
theorem Inv.un {t' : Nat} (I : Inv X pins σ H s) (u : Un X.fs [] H H' s.heap h') (hok : HOk X.prog X.w H' h') : Inv X pins σ H' { s with heap := h', toks := t' } := by
  obtain ⟨m, ⟨o, es, ep, ho, r⟩, _⟩ := id I.loc
  obtain ⟨sl, hL⟩ := u.any ho I.free (by simp)
  exact I.step (g' := s.gens) (d' := s.drawn) (ch := []) (fun _ z => nomatch z) (fun b o _ hb _ e n => u.keep b o e n hb (by simp)) (fun b o _ hb _ e n => u.slot b o e n hb (by simp)) (fun b o _ e n => u.free b o e n (by simp)) (fun b o _ e => u.there b o e (by simp)) u.tups u.frzs u.tbls (fun m' hm => by
    obtain ⟨o', es', ep', ho', r'⟩ := hm
    rw [ho] at ho'; cases ho'
    exact ⟨_, es', ep', hL, r'⟩) hok I.bare
theorem Inv.call {g' : Array GenState} {t' : Nat} {d' : Drawn} {ch : List Addr} (I : Inv X pins σ H s) (u : Un (frs X.stack) ch H H' s.heap h') (hok : HOk X.prog X.w H' h') (hg : AllBare g')
    (hch : ∀ b ∈ ch, (b ∈ X.ex ∨ X.s₀.heap.objs.size ≤ b) ∧ b ≠ X.env.locals ∧ (∀ x c, X.env.cells.lookup x = some c → c ≠ b) ∧ ∀ p ∈ X.pn ++ pins, p.1 ≠ b) :
    Inv X pins σ H' { s with heap := h', gens := g', drawn := d', toks := t' } := by
  obtain ⟨m, ⟨o, es, ep, ho, r⟩, _⟩ := id I.loc
  obtain ⟨sl, hL⟩ := u.any ho I.free fun z => (hch _ z).2.1 rfl
  exact I.step (ch := ch) hch (fun b o hL hb hc e n => u.keep b o e n (fun z => (List.mem_cons.mp (I.stkSub b z)).elim hL hb) hc) (fun b o _ _ hc e n => u.any e n hc) (fun b o hc e n => u.free b o e n hc) (fun b o hc e => u.there b o e hc) u.tups u.frzs u.tbls (fun m' hm => by
    obtain ⟨o', es', ep', ho', r'⟩ := hm
    rw [ho] at ho'; cases ho'
    exact ⟨_, es', ep', hL, r'⟩) hok hg
theorem Inv.turned {t' : Nat} {it : Addr} (I : Inv X pins σ H s) (k : ∀ b o, b ≠ it → s.heap.get? b = some o → h'.get? b = some o) (hn : H it = none) (hL : it ≠ X.env.locals)
    (h1 : it ∈ X.ex ∨ X.s₀.heap.objs.size ≤ it) (h2 : ∀ x c, X.env.cells.lookup x = some c → c ≠ it) (h3 : ∀ p ∈ X.pn ++ pins, p.1 ≠ it) : Inv X pins σ H { s with heap := h', toks := t' } := by
  have nit : ∀ b u, H b = some u → b ≠ it := fun b u e z => by rw [z, hn] at e; cases e
  refine I.step (g' := s.gens) (d' := s.drawn) (ch := [it]) (fun b hb => ?_) (fun b o _ _ hc e _ => k b o (fun z => hc (by simp [z])) e) (fun b o _ _ hc e _ => ⟨o.slots, k b o (fun z => hc (by simp [z])) e⟩) (fun _ _ _ _ n => n)
    (fun b o hc e => ⟨o, k b o (fun z => hc (by simp [z])) e⟩) (fun _ _ e => e) (fun _ _ _ e => e) (fun b ps e => ⟨#[], by rw [e]; simp⟩) (fun m hm => ?_) (fun b u e => ?_) I.bare
  · have e : b = it := by simpa using hb
    subst e
    exact ⟨h1, hL, h2, h3⟩
  · obtain ⟨o, es, ep, ho, r⟩ := hm
    exact ⟨o, es, ep, k _ o (Ne.symm hL) ho, r⟩
  · refine (I.hok b u e).stay (fun c v hc q => k c v ?_ q) (fun _ q => q) fun _ _ q => q
    rcases hc with z | z
    · rw [z]; exact nit b u e
    · exact nit c _ z
theorem Inv.tok (I : Inv X pins σ H s) (t : Nat) : Inv X pins σ H { s with toks := t } := I.un (h' := s.heap) (t' := t) Un.refl I.hok
theorem Inv.kept {t' : Nat} (I : Inv X pins σ H s) (k : ∀ b u, s.heap.get? b = some u → h'.get? b = some u) : Inv X pins σ H { s with heap := h', toks := t' } := I.un (Un.kept k) (I.hok.kept k)
theorem Inv.laid {a : Addr} {o : HO} {t' : Nat} (I : Inv X pins σ H s) (k : ∀ b u, s.heap.get? b = some u → h'.get? b = some u) (hp : s.heap.objs.size ≤ a) (new : ObjOk X.prog X.w (upd H a o) h' a o) :
    Inv X pins σ (upd H a o) { s with heap := h', toks := t' } := I.un (Un.laid k hp (I.hok.fresh hp)) (I.hok.laid k hp new)
theorem Inv.write {x e : Addr} {o : HO} {t' : Nat} (I : Inv X pins σ H s) (mu : Mut (H x)) (he : e = x ∨ H e = some (.own x)) (k : ∀ b u, b ≠ e → s.heap.get? b = some u → h'.get? b = some u) (heo : ∃ u, h'.get? e = some u)
    (new : ObjOk X.prog X.w (upd H x o) h' x o) : Inv X pins σ (upd H x o) { s with heap := h', toks := t' } := I.un (Un.write mu he k heo) (I.hok.write mu he k heo new)
theorem Inv.pins_of {pins' : List (Addr × Obj)} (I : Inv X pins σ H s) (h : ∀ p ∈ pins', s.heap.get? p.1 = some p.2 ∧ H p.1 = none ∧ p.1 ≠ X.env.locals ∧ p.1 ∉ X.fs ∧ ∀ v, p.2.data ≠ .cell v) : Inv X pins' σ H s :=
  ⟨I.ok, I.os, I.bare, I.base, I.loc, I.cell, I.free, I.freeC, fun p hp => (List.mem_append.mp hp).elim (fun z => I.pin p (List.mem_append_left _ z)) (h p), I.hok, I.len⟩
theorem nodup_ix {N : List Str} (hN : N.Nodup) {i j : Nat} {x : Str} (a : N[i]? = some x) (b : N[j]? = some x) : i = j := by
  obtain ⟨h1, e1⟩ := List.getElem?_eq_some_iff.mp a
  obtain ⟨h2, e2⟩ := List.getElem?_eq_some_iff.mp b
  exact (List.getElem_inj hN).mp (e1.trans e2.symm)
theorem store_ok2 {M : Model} {A : Around} {E : Value → Shared → Prop} {i : Nat} {x : Str} {v : V} {u : Value} {Q : Unit → Shared → Prop} (I : Inv X pins σ H s) (hN : X.N.Nodup) (hi : X.N[i]? = some x) (hx : Loc X.env.scope x) (r : RelV v u)
    (h : ∀ s', Inv X pins (σ.set i (some v)) H s' → (∃ a, Heap.SameBut a s.heap s'.heap ∧ (a = X.env.locals ∨ X.env.cells.lookup x = some a)) → Q () s') (hf : X.fn x = true ∨ X.env.scope.names.lookup x = some .local := by first | exact .inl rfl | exact .inr rfl | assumption) : wpAny M A (storeName X.env x u) Q E s := by
  obtain ⟨m, hn, hl⟩ := id I.loc
  have hcls : (X.env.scope.kind == .class || (X.env.scope.kind == .module && X.env.locals != X.env.globals)) = false := by rw [I.ok.kind]; rfl
  have hiσ : i < σ.length := by rw [I.len]; exact (List.getElem?_eq_some_iff.mp hi).1
  have cne := I.cne
  have tracked : ∀ {a : Addr} {h' : Heap}, (∃ o, s.heap.get? a = some o ∧ H a = none) → Heap.SameBut a s.heap h' → HOk X.prog X.w H h' := fun {a h'} ha hs b ob e => by
    obtain ⟨_, _, hfree⟩ := ha
    refine (I.hok b ob e).stay (fun c w' hc q => (hs.2 c ?_).trans q) (fun _ q => q) fun _ _ q => q
    rintro rfl
    rcases hc with rfl | hc
    · rw [hfree] at e; cases e
    · rw [hfree] at hc; cases hc
  rcases hx with hk | hk
  · refine wpAny_storeName_local hk hn (fun h' hn' hs => ?_) hcls
    obtain ⟨oL, _, _, hoL, _⟩ := id hn
    refine h _ ⟨I.ok, I.os, I.bare, ⟨fun b o e n hb hx => ?_, fun b o e n hb hx => ?_, I.base.free, fun b o e hx => ?_, I.base.tups, I.base.frzs, I.base.tbls⟩, ⟨_, hn', fun j y v' e1 e2 e3 => ?_⟩, fun y c e => ?_, I.free, I.freeC, fun p hp => ?_, tracked ⟨oL, hoL, I.free⟩ hs, by simpa using I.len⟩ ⟨_, hs, .inl rfl⟩
    · exact (hs.2 b (Nat.ne_of_lt (Nat.lt_of_lt_of_le (Heap.lt_size e) I.ok.above))).trans (I.base.keep b o e n hb hx)
    · obtain ⟨sl, e1⟩ := I.base.slot b o e n hb hx
      exact ⟨sl, (hs.2 b (Nat.ne_of_lt (Nat.lt_of_lt_of_le (Heap.lt_size e) I.ok.above))).trans e1⟩
    · obtain ⟨o', e1⟩ := I.base.there b o e hx
      exact ⟨o', (hs.2 b (Nat.ne_of_lt (Nat.lt_of_lt_of_le (Heap.lt_size e) I.ok.above))).trans e1⟩
    · by_cases hj : j = i
      · subst hj
        rw [hi] at e1; cases e1
        rw [List.getElem?_set_self hiσ] at e2
        cases e2
        exact ⟨u, r, .inl ⟨hk, by simp⟩⟩
      · rw [List.getElem?_set_ne (Ne.symm hj)] at e2
        obtain ⟨u', r', q⟩ := hl j y v' e1 e2 e3
        refine ⟨u', r', ?_⟩
        rcases q with ⟨k, e⟩ | ⟨k, c, e, z⟩
        · refine .inl ⟨k, ?_⟩
          have : y ≠ x := fun e => hj (nodup_ix hN e1 (e ▸ hi))
          simp [this, e]
        · exact .inr ⟨k, c, e, z.sameBut hs (cne y c e)⟩
    · obtain ⟨w', z⟩ := I.cell y c e
      exact ⟨w', z.sameBut hs (cne y c e)⟩
    · obtain ⟨e, n, ne, nf, d⟩ := I.pin p hp
      exact ⟨(hs.2 p.1 ne).trans e, n, ne, nf, d⟩
  · have hfn : X.fn x = true := by
      rcases hf with z | z
      · exact z
      · rw [z] at hk; cases hk
    obtain ⟨c, hc⟩ := I.ok.has x (.inl hk)
    obtain ⟨w', z⟩ := I.cell x c hc
    refine wpAny_storeName_cell I.ok.kind hk hc z (fun h' hc' hs => ?_)
    obtain ⟨oc, hoc, hocd⟩ := id z
    refine h { s with heap := h' } ⟨I.ok, I.os, I.bare, ⟨fun b o e n hb hx => ?_, fun b o e n hb hx => ?_, I.base.free, fun b o e hx => ?_, I.base.tups, I.base.frzs, I.base.tbls⟩, ⟨m, hn.sameBut hs (Ne.symm (cne x c hc)), fun j y v' e1 e2 e3 => ?_⟩, fun y c' e => ?_, I.free, I.freeC, fun p hp => ?_, tracked ⟨oc, hoc, I.freeC x c hc⟩ hs, by simpa using I.len⟩ ⟨c, hs, .inr hc⟩
    · exact (hs.2 b (Nat.ne_of_lt (Nat.lt_of_lt_of_le (Heap.lt_size e) (I.ok.cab x c hfn hc)))).trans (I.base.keep b o e n hb hx)
    · obtain ⟨sl, e1⟩ := I.base.slot b o e n hb hx
      exact ⟨sl, (hs.2 b (Nat.ne_of_lt (Nat.lt_of_lt_of_le (Heap.lt_size e) (I.ok.cab x c hfn hc)))).trans e1⟩
    · obtain ⟨o', e1⟩ := I.base.there b o e hx
      exact ⟨o', (hs.2 b (Nat.ne_of_lt (Nat.lt_of_lt_of_le (Heap.lt_size e) (I.ok.cab x c hfn hc)))).trans e1⟩
    · by_cases hj : j = i
      · subst hj
        rw [hi] at e1; cases e1
        rw [List.getElem?_set_self hiσ] at e2
        cases e2
        exact ⟨u, r, .inr ⟨.inl hk, c, hc, hc'⟩⟩
      · rw [List.getElem?_set_ne (Ne.symm hj)] at e2
        obtain ⟨u', r', q⟩ := hl j y v' e1 e2 e3
        refine ⟨u', r', ?_⟩
        rcases q with q | ⟨k, c', e, z'⟩
        · exact .inl q
        · refine .inr ⟨k, c', e, z'.sameBut hs ?_⟩
          rintro rfl
          exact hj (nodup_ix hN e1 (I.ok.inj _ _ _ e hc ▸ hi))
    · by_cases hcc : c' = c
      · subst hcc; exact ⟨_, hc'⟩
      · obtain ⟨w2, z2⟩ := I.cell y c' e
        exact ⟨w2, z2.sameBut hs hcc⟩
    · obtain ⟨e, n, ne, nf, d⟩ := I.pin p hp
      refine ⟨(hs.2 p.1 ?_).trans e, n, ne, nf, d⟩
      intro q
      rw [q, hoc] at e
      have q' : oc = p.2 := Option.some.inj e
      exact d w' (by rw [← q']; exact hocd)
theorem store_ok {M : Model} {A : Around} {E : Value → Shared → Prop} {i : Nat} {x : Str} {v : V} {u : Value} {Q : Unit → Shared → Prop} (I : Inv X pins σ H s) (hN : X.N.Nodup) (hi : X.N[i]? = some x) (hx : Loc X.env.scope x) (r : RelV v u)
    (h : ∀ s', Inv X pins (σ.set i (some v)) H s' → Q () s') (hf : X.fn x = true ∨ X.env.scope.names.lookup x = some .local := by first | exact .inl rfl | exact .inr rfl | assumption) : wpAny M A (storeName X.env x u) Q E s :=
  store_ok2 I hN hi hx r (fun s' I' _ => h s' I') hf
theorem Inv.call' {s' : Shared} {ch : List Addr} (I : Inv X pins σ H s) (ho : s'.os = s.os) (u : Un (frs X.stack) ch H H' s.heap s'.heap) (hok : HOk X.prog X.w H' s'.heap) (hg : AllBare s'.gens)
    (hch : ∀ b ∈ ch, (b ∈ X.ex ∨ X.s₀.heap.objs.size ≤ b) ∧ b ≠ X.env.locals ∧ (∀ x c, X.env.cells.lookup x = some c → c ≠ b) ∧ ∀ p ∈ X.pn ++ pins, p.1 ≠ b) : Inv X pins σ H' s' := by
  obtain ⟨h', g', d', t', o'⟩ := s'
  have e : o' = s.os := ho
  subst e
  exact I.call (g' := g') (t' := t') (d' := d') u hok hg hch
end
noncomputable abbrev XK := Value → Option Addr → Hp → Prop
noncomputable abbrev St := List (Option V)
noncomputable abbrev VK := V → Hp → Prop
noncomputable abbrev TE := St → Hp → VK → Prop
noncomputable abbrev TT := St → Hp → (Bool → Hp → Prop) → Prop
noncomputable abbrev TA := St → Hp → (List V → Hp → Prop) → Prop
structure Ends where
  nx : St → Hp → Prop
  rt : VK
  bk : St → Hp → Prop := fun _ _ => False
  ct : St → Hp → Prop := fun _ _ => False
noncomputable abbrev TS := Ends → St → Hp → Prop
noncomputable def EP (X : Cx) (pins : List (Addr × Obj)) (σ : St) (Q : VK) (u : Value) (s' : Shared) : Prop := ∃ v H', Inv X pins σ H' s' ∧ RelV v u ∧ Q v H'
noncomputable def TP (X : Cx) (pins : List (Addr × Obj)) (σ : St) (Q : Bool → Hp → Prop) (b : Bool) (s' : Shared) : Prop := ∃ H', Inv X pins σ H' s' ∧ Q b H'
noncomputable def AP (X : Cx) (pins : List (Addr × Obj)) (σ : St) (Q : List V → Hp → Prop) (us : List Value) (s' : Shared) : Prop := ∃ vs H', Inv X pins σ H' s' ∧ Vals vs us ∧ Q vs H'
theorem EPe {X : Cx} {pins : List (Addr × Obj)} {σ : St} {Q : VK} {u : Value} {s' : Shared} {C : Prop} (h : EP X pins σ Q u s') (k : ∀ v H', Inv X pins σ H' s' → RelV v u → Q v H' → C) : C := by
  obtain ⟨v, H', a, b, c⟩ := h
  exact k v H' a b c
theorem APe {X : Cx} {pins : List (Addr × Obj)} {σ : St} {Q : List V → Hp → Prop} {us : List Value} {s' : Shared} {C : Prop} (h : AP X pins σ Q us s') (k : ∀ vs H', Inv X pins σ H' s' → Vals vs us → Q vs H' → C) : C := by
  obtain ⟨v, H', a, b, c⟩ := h
  exact k v H' a b c
theorem TPe {X : Cx} {pins : List (Addr × Obj)} {σ : St} {Q : Bool → Hp → Prop} {b : Bool} {s' : Shared} {C : Prop} (h : TP X pins σ Q b s') (k : ∀ H', Inv X pins σ H' s' → Q b H' → C) : C := by
  obtain ⟨H', a, c⟩ := h
  exact k H' a c
noncomputable def SP (X : Cx) (pins : List (Addr × Obj)) (D : Ends) (f : Flow) (s' : Shared) : Prop :=
  match f with
  | .next => ∃ σ' H', Inv X pins σ' H' s' ∧ D.nx σ' H'
  | .brk => ∃ σ' H', Inv X pins σ' H' s' ∧ D.bk σ' H'
  | .cont => ∃ σ' H', Inv X pins σ' H' s' ∧ D.ct σ' H'
  | .ret u => ∃ v σ' H', Inv X pins σ' H' s' ∧ RelV v u ∧ D.rt v H'
noncomputable def PE (X : Cx) (e : Expr) (t : TE) : Prop :=
  ∀ (pins : List (Addr × Obj)) (s : Shared) (σ : St) (H : Hp) (Q : VK), Inv X pins σ H s → t σ H Q → wpAny (model X.prog X.w) X.A (eval e X.env) (EP X pins σ Q) X.xe s
noncomputable def PT (X : Cx) (e : Expr) (t : TT) : Prop :=
  ∀ (pins : List (Addr × Obj)) (s : Shared) (σ : St) (H : Hp) (Q : Bool → Hp → Prop), Inv X pins σ H s → t σ H Q → wpAny (model X.prog X.w) X.A (isTrue e X.env (eval e X.env)) (TP X pins σ Q) X.xe s
noncomputable def PW (X : Cx) (e : Expr) (t : TT) : Prop :=
  ∀ (whole : Sem Value) (pins : List (Addr × Obj)) (s : Shared) (σ : St) (H : Hp) (Q : Bool → Hp → Prop), Inv X pins σ H s → t σ H Q → wpAny (model X.prog X.w) X.A (isTrue e X.env whole) (TP X pins σ Q) X.xe s
theorem PW.pt {X : Cx} {e : Expr} {t : TT} (h : PW X e t) : PT X e t := h _
noncomputable def PA (X : Cx) (es : List Expr) (t : TA) : Prop :=
  ∀ (pos : Pos) (pins : List (Addr × Obj)) (s : Shared) (σ : St) (H : Hp) (Q : List V → Hp → Prop), Inv X pins σ H s → t σ H Q → wpAny (model X.prog X.w) X.A (spliced (backTo pos (starEach es X.env))) (AP X pins σ Q) X.xe s
noncomputable def PS (X : Cx) (st : Stmt) (t : TS) : Prop :=
  ∀ (pins : List (Addr × Obj)) (s : Shared) (σ : St) (H : Hp) (D : Ends), Inv X pins σ H s → t D σ H → wpAny (model X.prog X.w) X.A (exec st X.env) (SP X pins D) X.xe s
noncomputable def PSs (X : Cx) (st : List Stmt) (t : TS) : Prop :=
  ∀ (pins : List (Addr × Obj)) (s : Shared) (σ : St) (H : Hp) (D : Ends), Inv X pins σ H s → t D σ H → wpAny (model X.prog X.w) X.A (execs st X.env) (SP X pins D) X.xe s
theorem thn {α : Type} {t : Sem α} {Q Q' : α → Shared → Prop} {M : Model} {A : Around} {E : Value → Shared → Prop} {s : Shared} (h : wpAny M A t Q E s) (hQ : ∀ a s, Q a s → Q' a s) : wpAny M A t Q' E s := wpAny_mono h hQ fun _ _ x => x
end L2
namespace L2
open PySem PySem.Spec PyProof.Rows
section
variable {X : Cx}
inductive TVarI (i : Nat) (σ : St) (H : Hp) (Q : VK) : Prop where
  | mk (v : V) (e : σ[i]? = some (some v)) (q : Q v H) : TVarI i σ H Q
noncomputable def tVar (i : Nat) : TE := fun σ H Q => TVarI i σ H Q
noncomputable def tC (v : V) : TE := fun _ H Q => Q v H
theorem pe_var {i : Nat} {x : Str} {pos : Pos} (hN : X.N[i]? = some x) (hv : Vis X.env.scope x) (hd : (x == ("__debug__" : Str)) = false := by decide) (hcd : (x == ("__classdict__" : Str)) = false := by decide) : PE X (.Name x pos) (tVar i) := by
  intro pins s σ H Q I h
  obtain ⟨v, e, h⟩ := h
  obtain ⟨m, hn, hl⟩ := I.loc
  obtain ⟨u, r, l⟩ := hl i x v hN e hv
  have fin : EP X pins σ Q u s := ⟨v, H, I, r, h⟩
  rcases l with ⟨hk, hm⟩ | ⟨hk, c, hc, hcell⟩
  · exact wpAny_Name (wpAny_loadName_local I.ok.kind hk hn hm fin) hd
  · rcases hk with hk | hk
    · exact wpAny_Name (wpAny_loadName_cell I.ok.kind hk hc hcell fin) hd
    · exact wpAny_Name (wpAny_loadName_free I.ok.kind hk hc hcell fin hcd) hd
theorem pe_int {i j pos} : PE X (.Constant (.int i) j pos) (tC (.int i)) := fun _ _ _ H _ I h => wpAny_Constant_int ⟨.int i, H, I.tok _, ⟨_, rfl⟩, h⟩
theorem pe_bl {b j pos} : PE X (.Constant (.bool b) j pos) (tC (.bl b)) := fun _ _ _ H _ I h => Constant_bool ⟨.bl b, H, I, rfl, h⟩
theorem pe_non {j pos} : PE X (.Constant .none j pos) (tC .non) := fun _ _ _ H _ I h => Constant_none ⟨.non, H, I, rfl, h⟩
theorem pe_str {x j pos} : PE X (.Constant (.str x) j pos) (tC (.str x)) := fun _ _ _ H _ I h => Calls.Constant_str ⟨.str x, H, I.tok _, ⟨_, rfl⟩, h⟩
noncomputable def Gl (X : Cx) (x : Str) : Prop := X.env.kindOf x = some .globalImplicit
theorem ld_glob {E : Value → Shared → Prop} {pins : List (Addr × Obj)} {s : Shared} {σ : St} {H : Hp} {x : Str} {u : Value} {pos : Pos} {Q : Value → Shared → Prop} (I : Inv X pins σ H s) (hg : Gl X x) (hm : X.mg x = some u) (h : Q u s)
    (hd : (x == ("__debug__" : Str)) = false := by decide) : wpAny (model X.prog X.w) X.A (eval (.Name x pos) X.env) Q E s :=
  Calls.Name_function_global I.ok.kind hg (Calls.loadGlobal_global (by rw [I.ok.glob]; exact I.mod.glob.keeps I.bk) hm h) hd
theorem ld_blt {E : Value → Shared → Prop} {pins : List (Addr × Obj)} {s : Shared} {σ : St} {H : Hp} {x : Str} {u : Value} {pos : Pos} {Q : Value → Shared → Prop} (I : Inv X pins σ H s) (hg : Gl X x) (hm : X.mg x = none) (hv : bootBuiltins x = some u) (h : Q u s)
    (hn : x ≠ "__name__" := by decide) (hd : (x == ("__debug__" : Str)) = false := by decide) : wpAny (model X.prog X.w) X.A (eval (.Name x pos) X.env) Q E s := by
  obtain ⟨mb, h1, h2⟩ := I.mod.blt
  exact Calls.Name_function_global I.ok.kind hg (Calls.loadGlobal_builtin (by rw [I.ok.glob]; exact I.mod.glob.keeps I.bk) hm (by rw [I.ok.blt]; exact h1.keeps I.bk) ((h2 x hn).trans hv) h) hd
theorem pe_glob {x : Str} {v : V} {u : Value} {pos : Pos} (hg : Gl X x) (hm : X.mg x = some u) (r : RelV v u) (hd : (x == ("__debug__" : Str)) = false := by decide) : PE X (.Name x pos) (tC v) :=
  fun _ _ _ H _ I h => ld_glob I hg hm ⟨v, H, I, r, h⟩ hd
theorem pe_bltn {x : Str} {v : V} {u : Value} {pos : Pos} (hg : Gl X x) (hm : X.mg x = none) (hv : bootBuiltins x = some u) (r : RelV v u) (hn : x ≠ "__name__" := by decide) (hd : (x == ("__debug__" : Str)) = false := by decide) : PE X (.Name x pos) (tC v) :=
  fun _ _ _ H _ I h => ld_blt I hg hm hv ⟨v, H, I, r, h⟩ hn hd
variable {a b : Expr} {ta tb : TE} {pos : Pos}
inductive IsBl (x : V) (H : Hp) (Q : Bool → Hp → Prop) : Prop where
  | mk (c : Bool) (e : x = .bl c) (q : Q c H) : IsBl x H Q
noncomputable def tB (t : TE) : TT := fun σ H Q => t σ H fun x H1 => IsBl x H1 Q
theorem pt_val {e : Expr} {t : TE} (h : PE X e t) (he : ∀ whole, isTrue e X.env whole = (do let v ← whole; standAt e.pos; holding [v] (truthy v)) := by intro _; rfl) : PT X e (tB t) := by
  intro pins s σ H Q I hw
  refine isTrue_plain (thn (h pins s σ H _ I hw) fun v s1 hq_ => EPe hq_ fun x H1 I1 r1 q1 => ?_) (he _)
  obtain ⟨d, rfl, q⟩ := q1
  cases r1
  exact wpAny_truthy_bool ⟨H1, I1, q⟩
variable {tA tB' : TT} {rest : List Expr}
noncomputable def tOr (t u : TT) : TT := fun σ H Q => t σ H fun c H1 => if c = true then Q true H1 else u σ H1 Q
noncomputable def tNot (t : TT) : TT := fun σ H Q => t σ H fun c H1 => Q (!c) H1
theorem pw_or1 (ha : PT X a tA) : PW X (.BoolOp .Or [a] pos) tA := by
  intro wh pins s σ H Q I h
  refine isTrue_or (thn (ha pins s σ H Q I h) fun c s1 e => ?_)
  cases c with
  | false => exact isTrue_or_nil e
  | true => exact e
theorem pw_or (ha : PT X a tA) (hb : PW X (.BoolOp .Or (b :: rest) pos) tB') : PW X (.BoolOp .Or (a :: b :: rest) pos) (tOr tA tB') := by
  intro wh pins s σ H Q I h
  refine isTrue_or (thn (ha pins s σ H _ I h) fun c s1 hq_ => TPe hq_ fun H1 I1 q1 => ?_)
  cases c with
  | true => exact ⟨H1, I1, q1⟩
  | false => exact hb wh pins s1 σ H1 Q I1 q1
theorem pt_not (ha : PT X a tA) : PT X (.UnaryOp .Not a pos) (tNot tA) := by
  intro pins s σ H Q I h
  exact isTrue_not (ha pins s σ H (fun c H1 => Q (!c) H1) I h)
noncomputable def tAndV (ta tb : TE) : TE := fun σ H Q => ta σ H fun x H1 => ∃ c, x = .bl c ∧ if c = true then tb σ H1 Q else Q (.bl false) H1
noncomputable def tNotV (ta : TE) : TE := fun σ H Q => ta σ H fun x H1 => ∃ c, x = .bl c ∧ Q (.bl (!c)) H1
theorem pe_one {op} {t : TE} (h : PE X a t) : PE X (.BoolOp op [a] pos) t := fun pins s σ H Q I hw => BoolOp_one (h pins s σ H Q I hw)
theorem pe_and (ha : PE X a ta) (hb : PE X (.BoolOp .And (b :: rest) pos) tb) : PE X (.BoolOp .And (a :: b :: rest) pos) (tAndV ta tb) := by
  intro pins s σ H Q I h
  refine BoolOp_and (thn (ha pins s σ H _ I h) fun v s1 hq_ => EPe hq_ fun x H1 I1 r1 q1 => ?_)
  obtain ⟨c, rfl, q1⟩ := q1
  cases r1
  refine wpAny_truthy_bool ?_
  cases c with
  | true => exact hb pins s1 σ H1 Q I1 q1
  | false => exact ⟨.bl false, H1, I1, rfl, q1⟩
theorem pe_not (ha : PE X a ta) : PE X (.UnaryOp .Not a pos) (tNotV ta) := by
  intro pins s σ H Q I h
  refine UnaryOp_ (thn (ha pins s σ H _ I h) fun v s1 hq_ => EPe hq_ fun x H1 I1 r1 q1 => ?_)
  obtain ⟨c, rfl, q1⟩ := q1
  cases r1
  exact not_of (wpAny_truthy_bool ⟨.bl (!c), H1, I1, rfl, q1⟩)
end
end L2
namespace L2
open PySem PySem.Spec PyProof.Rows
noncomputable def SqL (K : PySem.W.Frag) (H : Hp) (a : Addr) (xs : List V) : Prop :=
  Rd H a (.lst xs) ∨
    ∃ (o : Obj) (its : Array Value) (n : Nat), K.lookup a = some o ∧ o.cls = .type "list" ∧ o.dict = none ∧ o.data = .seq its n ∧ its.size ≤ sizeLine ∧ Vals xs its.toList
noncomputable def SqT (K : PySem.W.Frag) (H : Hp) (a : Addr) (xs : List V) : Prop :=
  Rd H a (.tup xs) ∨
    ∃ (o : Obj) (its : Array Value) (n : Nat), K.lookup a = some o ∧ o.cls = .type "tuple" ∧ o.data = .seq its n ∧ its.size ≤ sizeLine ∧ Vals xs its.toList
noncomputable def absV : Value → Option V
  | .none => some .non
  | .bool b => some (.bl b)
  | .int i _ => some (.int i)
  | .str x _ => some (.str x)
  | .bytes b _ => some (.byt b)
  | .float b _ => some (.flt b)
  | .ref a => some (.ref a)
  | .type n => some (.ty n)
  | _ => none
theorem RelV.abs {x : V} {u : Value} (r : RelV x u) : absV u = some x := by
  cases x with
  | non => cases r; rfl
  | bl _ => cases r; rfl
  | int _ => obtain ⟨t, rfl⟩ := r; rfl
  | str _ => obtain ⟨t, rfl⟩ := r; rfl
  | byt _ => obtain ⟨t, rfl⟩ := r; rfl
  | flt _ => obtain ⟨t, rfl⟩ := r; rfl
  | ref _ => cases r; rfl
  | ty _ => cases r; rfl
theorem RelV.inj {x y : V} {u : Value} (r : RelV x u) (q : RelV y u) : x = y := Option.some.inj (r.abs.symm.trans q.abs)
theorem Vals.inj : ∀ {xs ys : List V} {us : List Value}, Vals xs us → Vals ys us → xs = ys
  | _, _, _, .nil, .nil => rfl
  | _, _, _, .cons r t, .cons r' t' => by rw [r.inj r', Vals.inj t t']
section
variable {X : Cx} {pins : List (Addr × Obj)} {σ : St} {H : Hp} {s : Shared} {a : Addr} {xs ys : List V}
theorem SqL.of {K : PySem.W.Frag} (h : H a = some (.lst xs)) : SqL K H a xs := .inl (.inl h)
theorem SqT.of {K : PySem.W.Frag} (h : H a = some (.tup xs)) : SqT K H a xs := .inl (.inl h)
theorem Inv.list (I : Inv X pins σ H s) (h : SqL X.K H a xs) : ∃ its : List Value, Vals xs its ∧ PlainL s.heap a its.toArray ∧ xs.length ≤ sizeLine := by
  rcases h with h | ⟨o, its, n, hk, hc, hd, hs, hz, r⟩
  · obtain ⟨z, its, n, r, e⟩ := h.ok I.hok
    exact ⟨its, r, ⟨_, n, e, rfl, rfl, rfl⟩, z⟩
  · refine ⟨its.toList, r, ⟨o, n, I.kIn a o hk, hc, hd, by simpa using hs⟩, ?_⟩
    have e := r.length
    simp only [Array.length_toList] at e
    (first | with_reducible assumption | lia | omega)
theorem Inv.tuple (I : Inv X pins σ H s) (h : SqT X.K H a xs) : ∃ its : List Value, Vals xs its ∧ IsTup s.heap a its.toArray ∧ xs.length ≤ sizeLine := by
  rcases h with h | ⟨o, its, n, hk, hc, hs, hz, r⟩
  · obtain ⟨z, its, r, p⟩ := h.ok I.hok
    exact ⟨its, r, p, z⟩
  · refine ⟨its.toList, r, ⟨o, I.kIn a o hk, hc, n, by simpa using hs⟩, ?_⟩
    have e := r.length
    simp only [Array.length_toList] at e
    (first | with_reducible assumption | lia | omega)
theorem Inv.list_inj (I : Inv X pins σ H s) (h : SqL X.K H a xs) (h' : SqL X.K H a ys) : xs = ys := by
  obtain ⟨its, r, ⟨o, n, e, _, _, d⟩, _⟩ := I.list h
  obtain ⟨its', r', ⟨o', n', e', _, _, d'⟩, _⟩ := I.list h'
  rw [e] at e'; cases e'
  rw [d] at d'
  injection d' with d1 _
  have : its = its' := by simpa using congrArg Array.toList d1
  subst this
  exact r.inj r'
end
noncomputable abbrev Cx.wish (X : Cx) (E : Value → Shared → Prop) : Cx := { X with xe := E }
noncomputable abbrev Cx.nox (X : Cx) : Cx := X.wish fun _ _ => False
theorem Cx.Ok.wish {X : Cx} (ok : X.Ok) (E : Value → Shared → Prop) : (X.wish E).Ok :=
  ⟨ok.mod, ok.kind, ok.glob, ok.blt, ok.above, ok.inj, ok.has, ok.cab, ok.hd, ok.frames, ok.stk, ok.exf, ok.bs, ok.bsz, ok.noex, ok.exfs, ok.funs, ok.frf⟩
theorem Cx.Ok.unwish {X : Cx} {E : Value → Shared → Prop} (ok : (X.wish E).Ok) : X.Ok :=
  ⟨ok.mod, ok.kind, ok.glob, ok.blt, ok.above, ok.inj, ok.has, ok.cab, ok.hd, ok.frames, ok.stk, ok.exf, ok.bs, ok.bsz, ok.noex, ok.exfs, ok.funs, ok.frf⟩
section
variable {X : Cx} {pins : List (Addr × Obj)} {σ : St} {H : Hp} {s : Shared} {E : Value → Shared → Prop}
theorem Inv.wish (I : Inv X pins σ H s) (E : Value → Shared → Prop) : Inv (X.wish E) pins σ H s := ⟨I.ok.wish E, I.os, I.bare, I.base, I.loc, I.cell, I.free, I.freeC, I.pin, I.hok, I.len⟩
theorem Inv.unwish (I : Inv (X.wish E) pins σ H s) : Inv X pins σ H s := ⟨I.ok.unwish, I.os, I.bare, I.base, I.loc, I.cell, I.free, I.freeC, I.pin, I.hok, I.len⟩
theorem SP.unwish {D : Ends} {f : Flow} {s' : Shared} (h : SP (X.wish E) pins D f s') : SP X pins D f s' := by
  cases f with
  | next => obtain ⟨σ', H', I, q⟩ := h; exact ⟨σ', H', I.unwish, q⟩
  | brk => obtain ⟨σ', H', I, q⟩ := h; exact ⟨σ', H', I.unwish, q⟩
  | cont => obtain ⟨σ', H', I, q⟩ := h; exact ⟨σ', H', I.unwish, q⟩
  | ret u => obtain ⟨v, σ', H', I, r, q⟩ := h; exact ⟨v, σ', H', I.unwish, r, q⟩
theorem PSs.nox {st : List Stmt} {t : TS} (h : PSs X.nox st t) : PSs X st t := fun pins s σ H D I hw =>
  wpAny_mono (h pins s σ H D (I.wish _) hw) (fun _ _ q => q.unwish) fun _ _ z => False.elim z
end
section
variable {X : Cx} {st : Stmt} {rest : List Stmt} {t u : TS} {e : Expr} {te : TE} {pos : Pos}
noncomputable def tNext : TS := fun D σ H => D.nx σ H
noncomputable def tSeq (t u : TS) : TS := fun D σ H => t { D with nx := u D } σ H
theorem pss_nil : PSs X [] tNext := fun _ _ σ H _ I h => wpAny_execs_nil ⟨σ, H, I, h⟩
theorem pss_cons (h1 : PS X st t) (h2 : PSs X rest u) : PSs X (st :: rest) (tSeq t u) := by
  intro pins s σ H D I h
  refine wpAny_execs_cons (thn (h1 pins s σ H { D with nx := u D } I h) fun f s1 q => ?_)
  cases f with
  | next =>
    obtain ⟨σ', H', I', q⟩ := q
    exact h2 pins s1 σ' H' D I' q
  | ret v => exact q
  | brk => exact q
  | cont => exact q
theorem pss_one (h1 : PS X st t) : PSs X [st] t := by
  intro pins s σ H D I h
  refine wpAny_execs_cons (thn (h1 pins s σ H D I h) fun f s1 q => ?_)
  cases f with
  | next => exact wpAny_execs_nil q
  | ret v => exact q
  | brk => exact q
  | cont => exact q
theorem Inv.quiet {pins : List (Addr × Obj)} {σ : St} {H : Hp} {s : Shared} (I : Inv X pins σ H s) : interactive X.env = false := by simp [interactive, I.ok.kind]
noncomputable def tDrop (te : TE) : TS := fun D σ H => te σ H fun _ H1 => D.nx σ H1
theorem ps_expr (he : PE X e te) (hs : swapsWith e none pos.line X.env = pure false := by rfl) : PS X (.Expr e pos) (tDrop te) := by
  intro pins s σ H D I h
  exact wpAny_Expr_any (thn (he pins s σ H _ I h) fun v s1 hq_ => EPe hq_ fun x H1 I1 r1 q1 => ⟨σ, H1, I1, q1⟩) I.quiet hs
noncomputable def tRet (te : TE) : TS := fun D σ H => te σ H D.rt
theorem ps_ret (he : PE X e te) : PS X (.Return (some e) pos) (tRet te) := by
  intro pins s σ H D I h
  exact wpAny_Return_some (thn (he pins s σ H _ I h) fun v s1 hq_ => EPe hq_ fun x H1 I1 r1 q1 => ⟨x, σ, H1, I1, r1, q1⟩)
noncomputable def tIfS (c : TT) (t u : TS) : TS := fun D σ H => c σ H fun b H1 => if b = true then t D σ H1 else u D σ H1
theorem ps_if {c : Expr} {a b : List Stmt} {tc : TT} (hc : PT X c tc) (ha : PSs X a t) (hb : PSs X b u) : PS X (.If c a b pos) (tIfS tc t u) := by
  intro pins s σ H D I h
  refine wpAny_If (thn (hc pins s σ H _ I h) fun d s1 hq_ => TPe hq_ fun H1 I1 q1 => ?_)
  cases d with
  | true => exact ha pins s1 σ H1 D I1 q1
  | false => exact hb pins s1 σ H1 D I1 q1
noncomputable def tNever : TS := fun _ _ _ => False
theorem pss_never {sts : List Stmt} : PSs X sts tNever := fun _ _ _ _ _ _ h => h.elim
end
noncomputable abbrev TG := V → St → Hp → (St → Hp → Prop) → Prop
noncomputable abbrev TGs := List V → St → Hp → (St → Hp → Prop) → Prop
noncomputable def PG (X : Cx) (target : Expr) (t : TG) : Prop :=
  ∀ (pins : List (Addr × Obj)) (s : Shared) (σ : St) (H : Hp) (v : V) (u : Value) (Q : St → Hp → Prop), Inv X pins σ H s → RelV v u → t v σ H Q →
    wpAny (model X.prog X.w) X.A (assign target X.env u) (fun _ s' => ∃ σ' H', Inv X pins σ' H' s' ∧ Q σ' H') X.xe s
noncomputable def PGs (X : Cx) (ts : List Expr) (t : TGs) : Prop :=
  ∀ (pins : List (Addr × Obj)) (s : Shared) (σ : St) (H : Hp) (vs : List V) (us : List Value) (Q : St → Hp → Prop), Inv X pins σ H s → Vals vs us → t vs σ H Q →
    wpAny (model X.prog X.w) X.A (assignInOrder ((assignEach ts X.env).map (·.2)) us) (fun _ s' => ∃ σ' H', Inv X pins σ' H' s' ∧ Q σ' H') X.xe s
noncomputable abbrev TSet := V → V → V → Hp → (Hp → Prop) → Prop
noncomputable def PSet (X : Cx) (t : TSet) : Prop :=
  ∀ (pins : List (Addr × Obj)) (s : Shared) (σ : St) (H : Hp) (o i v : V) (ov iv u : Value) (Q : Hp → Prop), Inv X pins σ H s → RelV o ov → RelV i iv → RelV v u → t o i v H Q →
    wpAny (model X.prog X.w) X.A (setItem ov iv u) (fun _ s' => ∃ H', Inv X pins σ H' s' ∧ Q H') X.xe s
noncomputable abbrev TIp := V → V → Hp → VK → Prop
noncomputable def PIp (X : Cx) (op : Operator) (t : TIp) : Prop :=
  ∀ (pins : List (Addr × Obj)) (s : Shared) (σ : St) (H : Hp) (x y : V) (v u : Value) (Q : VK), Inv X pins σ H s → RelV x v → RelV y u → t x y H Q →
    wpAny (model X.prog X.w) X.A (inplaceOp op v u) (EP X pins σ Q) X.xe s
section
variable {X : Cx} {pos : Pos}
noncomputable def gName (i : Nat) : TG := fun v σ H Q => Q (σ.set i (some v)) H
theorem pg_name {i : Nat} {x : Str} (hN : X.N.Nodup) (hi : X.N[i]? = some x) (hx : Loc X.env.scope x) (hf : X.fn x = true ∨ X.env.scope.names.lookup x = some .local := by first | exact .inl rfl | exact .inr rfl | assumption) : PG X (.Name x pos) (gName i) := by
  intro pins s σ H v u Q I r h
  exact wpAny_assign_Name (store_ok I hN hi hx r (fun s' I' => ⟨_, H, I', h⟩) hf)
noncomputable def gNil : TGs := fun vs σ H Q => vs = [] ∧ Q σ H
noncomputable def gCons (t : TG) (u : TGs) : TGs := fun vs σ H Q => ∃ v r, vs = v :: r ∧ t v σ H fun σ' H' => u r σ' H' Q
theorem pgs_nil : PGs X [] gNil := by
  intro pins s σ H vs us Q I r h
  obtain ⟨e, h⟩ := h
  subst e
  cases r
  exact assignInOrder_nil ⟨σ, H, I, h⟩
theorem pgs_cons {e : Expr} {es : List Expr} {t : TG} {u : TGs} (h1 : PG X e t) (h2 : PGs X es u)
    (hs : (assignEach (e :: es) X.env).map (·.2) = assign e X.env :: (assignEach es X.env).map (·.2) := by rfl) : PGs X (e :: es) (gCons t u) := by
  intro pins s σ H vs us Q I r h
  obtain ⟨v, vr, e1, h⟩ := h
  subst e1
  cases r with
  | cons r rr =>
    rw [hs]
    refine assignInOrder_cons (thn (h1 pins s σ H _ _ _ I r h) fun _ s1 ⟨σ1, H1, I1, q1⟩ => ?_)
    exact h2 pins s1 σ1 H1 _ _ Q I1 rr q1
noncomputable def gTup (K : PySem.W.Frag) (n : Nat) (t : TGs) : TG := fun v σ H Q => ∃ a xs, v = .ref a ∧ SqT K H a xs ∧ xs.length = n ∧ t xs σ H Q
theorem pg_tup {es : List Expr} {k : Nat} {t : TGs} {n : Nat} (hc : X.calm = true) (h : PGs X es t)
    (hn : (assignEach es X.env).length = n := by rfl) (hst : (assignEach es X.env).findIdx? (·.1) = none := by rfl) : PG X (.Tuple es k pos) (gTup X.K n t) := by
  intro pins s σ H v u Q I r hw
  obtain ⟨a, xs, e1, hq, hl, hw⟩ := hw
  subst e1
  cases r
  obtain ⟨its, rv, ht, hz⟩ := I.tuple hq
  refine assign_Tuple_tuple (I.ok.hd hc) ht (by simp [hn, ← hl, rv.length]) hst fun h' hx => ?_
  have I1 : Inv X pins σ H { s with heap := h' } := I.kept (t' := s.toks) fun b o e => hx b o (Nat.ne_of_lt (Heap.lt_size e)) e
  exact h pins _ σ H xs _ Q I1 (by simpa using rv) hw
noncomputable def gSub (to ti : TE) (t : TSet) : TG := fun v σ H Q => to σ H fun o H1 => ti σ H1 fun i H2 => t o i v H2 fun H3 => Q σ H3
theorem pg_sub {o i : Expr} {to ti : TE} {t : TSet} (ho : PE X o to) (hi : PE X i ti) (hs : PSet X t)
    (ha : ∀ v, assign (.Subscript o i pos) X.env v = (do
      let ov ← holding [v] (eval o X.env)
      let iv ← holding [v, ov] (eval i X.env)
      standAt pos
      holding [v, ov, iv] (setItem ov iv v)
      release [v, ov, iv] []) := by intro _; rfl) : PG X (.Subscript o i pos) (gSub to ti t) := by
  intro pins s σ H v u Q I r h
  rw [ha]
  refine wpAny_bind (wpAny_holding (thn (ho pins s σ H _ I h) fun ov s1 hq_ => EPe hq_ fun x H1 I1 r1 q1 => ?_))
  refine wpAny_bind (wpAny_holding (thn (hi pins s1 σ H1 _ I1 q1) fun iv s2 hq_ => EPe hq_ fun y H2 I2 r2 q2 => ?_))
  refine wpAny_bind (wpAny_standAt (wpAny_bind (wpAny_holding (thn (hs pins s2 σ H2 x y v ov iv u _ I2 r1 r2 r q2) fun _ s3 ⟨H3, I3, q3⟩ => ?_))))
  exact wpAny_release ⟨σ, H3, I3, q3⟩
noncomputable def tAsg (te : TE) (g : TG) : TS := fun D σ H => te σ H fun x H1 => g x σ H1 D.nx
theorem ps_asg {tg e : Expr} {te : TE} {g : TG} (he : PE X e te) (hg : PG X tg g) (hs : swapsWithSole [tg] e pos.line X.env = pure false := by rfl) (hw : swappedStores [tg] e X.env = pure none := by rfl)
    (h1 : (assignEach [tg] X.env).map (·.2) = [assign tg X.env] := by rfl) : PS X (.Assign [tg] e pos) (tAsg te g) := by
  intro pins s σ H D I h
  refine wpAny_Assign_stores (thn (he pins s σ H _ I h) fun v s1 hq_ => EPe hq_ fun x H1 I1 r1 q1 => ?_) hs hw
  rw [h1]
  exact thn (hg pins s1 σ H1 x v _ I1 r1 q1) fun _ s2 q => q
theorem ps_set {i : Nat} {x : Str} {e : Expr} {te : TE} {pos' : Pos} (hN : X.N.Nodup) (hi : X.N[i]? = some x) (hx : Loc X.env.scope x) (he : PE X e te) (hs : swapsWith e (some (.Name x pos')) pos.line X.env = pure false := by rfl) (hf : X.fn x = true ∨ X.env.scope.names.lookup x = some .local := by first | exact .inl rfl | exact .inr rfl | assumption) :
    PS X (.Assign [.Name x pos'] e pos) (tAsg te (gName i)) := by
  intro pins s σ H D I h
  refine wpAny_Assign_Name (thn (he pins s σ H _ I h) fun v s1 hq_ => EPe hq_ fun y H1 I1 r1 q1 => ?_) hs
  exact store_ok I1 hN hi hx r1 (fun s2 I2 => ⟨_, H1, I2, q1⟩) hf
inductive ItAug (i : Nat) (σ : St) (P : V → Prop) : Prop where
  | mk (x : V) (e : σ[i]? = some (some x)) (q : P x) : ItAug i σ P
noncomputable def tAug (i : Nat) (te : TE) (ti : TIp) : TS := fun D σ H => ItAug i σ fun x => te σ H fun y H1 => ti x y H1 fun z H2 => D.nx (σ.set i (some z)) H2
theorem ps_aug {i : Nat} {x : Str} {e : Expr} {te : TE} {op : Operator} {ti : TIp} {pos' : Pos} (hN : X.N.Nodup) (hi : X.N[i]? = some x) (hx : Loc X.env.scope x) (he : PE X e te) (ho : PIp X op ti) (hf : X.fn x = true ∨ X.env.scope.names.lookup x = some .local := by first | exact .inl rfl | exact .inr rfl | assumption) :
    PS X (.AugAssign (.Name x pos') op e pos) (tAug i te ti) := by
  intro pins s σ H D I h
  obtain ⟨v, e1, h⟩ := h
  obtain ⟨m, hn, hl⟩ := I.loc
  have vis : Vis X.env.scope x := by rcases hx with k | k; exact .inl k; exact .inr (.inl k)
  obtain ⟨u, r, l⟩ := hl i x v hi e1 vis
  refine wpAny_AugAssign_Name ?_
  have go : wpAny (model X.prog X.w) X.A (eval e X.env) (fun w s₂ => wpAny (model X.prog X.w) X.A (inplaceOp op u w) (fun r s₃ => wpAny (model X.prog X.w) X.A (storeName X.env x r) (fun _ => SP X pins D .next) X.xe s₃) X.xe s₂) X.xe s := by
    refine thn (he pins s σ H _ I h) fun w s1 hq_ => EPe hq_ fun y H1 I1 r1 q1 => ?_
    refine thn (ho pins s1 σ H1 v y u w _ I1 r r1 q1) fun z s2 hq_ => EPe hq_ fun zv H2 I2 r2 q2 => ?_
    exact store_ok I2 hN hi hx r2 (fun s3 I3 => ⟨_, H2, I3, q2⟩) hf
  rcases l with ⟨hk, hm⟩ | ⟨hk, c, hc, hcell⟩
  · exact wpAny_loadName_local I.ok.kind hk hn hm go
  · rcases hk with hk | hk
    · exact wpAny_loadName_cell I.ok.kind hk hc hcell go
    · rcases hx with k | k
      · have : X.env.scope.names.lookup x = some .free := hk
        rw [k] at this; cases this
      · have : X.env.scope.names.lookup x = some .free := hk
        rw [k] at this; cases this
noncomputable def ipI (f : Int → Int → Int) : TIp := fun x y H Q => ∃ i j, x = .int i ∧ y = .int j ∧ Q (.int (f i j)) H
theorem ip_add : PIp X .Add (ipI fun i j => i + j) := by
  intro pins s σ H x y v u Q I r1 r2 h
  obtain ⟨i, j, e1, e2, q⟩ := h
  subst e1; subst e2
  obtain ⟨t, rfl⟩ := r1
  obtain ⟨t', rfl⟩ := r2
  exact iadd_int ⟨.int _, H, I.tok _, ⟨_, rfl⟩, q⟩
theorem ip_sub : PIp X .Sub (ipI fun i j => i - j) := by
  intro pins s σ H x y v u Q I r1 r2 h
  obtain ⟨i, j, e1, e2, q⟩ := h
  subst e1; subst e2
  obtain ⟨t, rfl⟩ := r1
  obtain ⟨t', rfl⟩ := r2
  exact isub_int ⟨.int _, H, I.tok _, ⟨_, rfl⟩, q⟩
end
section
variable {X : Cx} {pos : Pos}
noncomputable def tWhile (c : TT) (tb : TS) : TS := fun D σ H => ∃ W : Nat → St → Hp → Prop, (∃ m, W m σ H) ∧ ∀ m σ H, W m σ H →
  c σ H fun b H1 => if b = true then ∃ N : St → Hp → Prop, (∀ σ' H', N σ' H' → ∃ m', m' < m ∧ W m' σ' H') ∧ tb { D with nx := N, ct := N, bk := D.nx } σ H1 else D.nx σ H1
theorem ps_while {c : Expr} {body : List Stmt} {tc : TT} {tb : TS} (hp : PassesOwn (model X.prog X.w) X.A X.env X.xe) (hc : PT X c tc) (hb : PSs X body tb) : PS X (.While c body [] pos) (tWhile tc tb) := by
  intro pins s σ H D I h
  obtain ⟨W, ⟨m0, w0⟩, turn⟩ := h
  refine wpAny_While (codeAny_whileLoop (fun n s' => ∃ σ' H', Inv X pins σ' H' s' ∧ W n σ' H') ?_ m0 ⟨σ, H, I, w0⟩)
  rintro n s1 ⟨σ1, H1, I1, w1⟩
  refine wpAny_passesOwn hp (thn (hc pins s1 σ1 H1 _ I1 (turn n σ1 H1 w1)) fun b s2 hq_ => TPe hq_ fun H2 I2 q2 => ?_)
  cases b with
  | true =>
    obtain ⟨N, hN, q2⟩ := q2
    rw [if_pos rfl]
    refine wpAny_passesOwn hp (thn (hb pins s2 σ1 H2 _ I2 q2) fun f s3 q3 => ?_)
    cases f with
    | next =>
      obtain ⟨σ3, H3, I3, n3⟩ := q3
      obtain ⟨m', hm, w3⟩ := hN σ3 H3 n3
      exact ⟨m', hm, σ3, H3, I3, w3⟩
    | cont =>
      obtain ⟨σ3, H3, I3, n3⟩ := q3
      obtain ⟨m', hm, w3⟩ := hN σ3 H3 n3
      exact ⟨m', hm, σ3, H3, I3, w3⟩
    | brk => exact q3
    | ret v => exact q3
  | false =>
    rw [if_neg Bool.false_ne_true]
    exact wpAny_execs_nil ⟨σ1, H2, I2, q2⟩
end
structure It where
  go : Nat → Hp → Prop
  yld : Nat → Hp → V → Hp → Prop
  stop : Nat → Hp → Prop
noncomputable def FpOk (X : Cx) (pins : List (Addr × Obj)) (H : Hp) (b : Addr) : Prop :=
  H b = none ∧ b ≠ X.env.locals ∧ b ∉ X.fs ∧ (b ∈ X.ex ∨ X.s₀.heap.objs.size ≤ b) ∧ (∀ x c, X.env.cells.lookup x = some c → c ≠ b) ∧ ∀ p ∈ X.pn ++ pins, p.1 ≠ b
theorem Inv.fpOk {X : Cx} {pins : List (Addr × Obj)} {σ : St} {H H' : Hp} {s : Shared} {b : Addr} (I : Inv X pins σ H s) (hb : s.heap.objs.size ≤ b) (hn : H' b = none) : FpOk X pins H' b := by
  refine ⟨hn, Nat.ne_of_gt (Nat.lt_of_lt_of_le I.lt hb), I.nofs hb, .inr (Nat.le_trans I.sz hb), fun x c e z => ?_, fun p hp z => ?_⟩
  · obtain ⟨v, q⟩ := I.cell x c e
    exact absurd (Nat.lt_of_lt_of_le q.lt (by rw [z]; exact hb)) (Nat.lt_irrefl _)
  · exact absurd (Nat.lt_of_lt_of_le (Heap.lt_size (I.pin p hp).1) (by rw [z]; exact hb)) (Nat.lt_irrefl _)
structure Turn (P : Program) (w : World) (K : PySem.W.Frag) (tg : Expr) (J : It) (fp : List Addr) (it : Addr) (tn : Nat → Heap → Prop) : Prop where
  mem : it ∈ fp
  obj : ∀ i h, tn i h → ∀ b ∈ fp, ∃ o, h.get? b = some o ∧ ∀ v, o.data ≠ .cell v
  keep : ∀ i h h', tn i h → (∀ b ∈ fp, ∀ o, h.get? b = some o → h'.get? b = some o) → tn i h'
  item : ∀ (X : Cx), X.prog = P → X.w = w → X.K = K → X.calm = true → ∀ (i : Nat) (pins : List (Addr × Obj)) (s : Shared) (σ : St) (H : Hp) (E : Value → Shared → Prop), Inv X pins σ H s → (∀ b ∈ fp, FpOk X pins H b) → tn i s.heap → J.go i H →
    wpAny (model P w) X.A (pyNext (.ref it)) (fun r s1 => ∃ u, r = some u ∧
      wpAny (model P w) X.A (letOwnedTupleGo tg (.ref it) u) (fun _ s2 => ∃ x H', Inv X pins σ H' s2 ∧ RelV x u ∧ J.yld i H x H' ∧ tn (i + 1) s2.heap ∧ ∀ b ∈ fp, H' b = none) E s1) E s
  done : ∀ (X : Cx), X.prog = P → X.w = w → X.K = K → X.calm = true → ∀ (i : Nat) (pins : List (Addr × Obj)) (s : Shared) (σ : St) (H : Hp) (E : Value → Shared → Prop), Inv X pins σ H s → (∀ b ∈ fp, FpOk X pins H b) → tn i s.heap → J.stop i H →
    wpAny (model P w) X.A (pyNext (.ref it)) (fun r s1 => r = none ∧ Inv X pins σ H s1) E s
  self : ∀ (A : Around) (i : Nat) (s : Shared) (Q : Value → Shared → Prop) (E : Value → Shared → Prop), tn i s.heap → Q (.ref it) s → wpAny (model P w) A (pyIter (.ref it)) Q E s
noncomputable abbrev TI := St → Hp → (It → Hp → Prop) → Prop
noncomputable def PIE (X : Cx) (pins : List (Addr × Obj)) (σ : St) (tg : Expr) (R : It → Hp → Prop) (itv : Value) (s2 : Shared) : Prop :=
  ∃ (it : Addr) (fp : List Addr) (tn : Nat → Heap → Prop) (J : It) (H' : Hp), itv = .ref it ∧ Inv X pins σ H' s2 ∧ Turn X.prog X.w X.K tg J fp it tn ∧ tn 0 s2.heap ∧ (∀ b ∈ fp, FpOk X pins H' b) ∧ R J H'
noncomputable def PI (X : Cx) (tg iter : Expr) (wi : TI) : Prop :=
  ∀ (pins : List (Addr × Obj)) (s : Shared) (σ : St) (H : Hp) (R : It → Hp → Prop), Inv X pins σ H s → wi σ H R →
    wpAny (model X.prog X.w) X.A (eval iter X.env) (fun v s1 => wpAny (model X.prog X.w) X.A (pyIter v) (PIE X pins σ tg R) X.xe s1) X.xe s
theorem go_of {M : Model} {A : Around} {E : Value → Shared → Prop} {s : Shared} {tg : Expr} {it : Addr} {u : Value} {o : Obj} {n : String} {vs : Array Value} {Q : Unit → Shared → Prop} (ho : s.heap.get? it = some o) (hc : o.cls = .type n) (hd : o.data = .fields vs)
    (hn : ["enumerate", "zip", "dict_itemiterator", "dict_reverseitemiterator", "odict_iterator", "itertools.zip_longest", "itertools.pairwise"].contains n = false) (hQ : Q () s) : wpAny M A (letOwnedTupleGo tg (.ref it) u) Q E s := by
  unfold letOwnedTupleGo
  cases tg <;> first
    | exact wpAny_pure hQ
    | (cases u <;> first
        | exact wpAny_pure hQ
        | (refine wpAny_bind (wpAny_load ho ?_)
           rw [hc, hd]
           show wpAny M A (if (["enumerate", "zip", "dict_itemiterator", "dict_reverseitemiterator", "odict_iterator", "itertools.zip_longest", "itertools.pairwise"].contains n && vs[0]? == some (rawInt _)) = true then _ else _) Q E s
           rw [if_neg (by intro h; rw [hn, Bool.false_and] at h; cases h)]
           exact wpAny_pure hQ))
noncomputable def Itl (K : PySem.W.Frag) (a : Addr) : It :=
  ⟨fun i H => ∃ xs x, SqL K H a xs ∧ xs[i]? = some x, fun i H x H' => H' = H ∧ ∀ xs, SqL K H a xs → xs[i]? = some x, fun i H => ∃ xs, SqL K H a xs ∧ xs.length ≤ i⟩
noncomputable def Itr (lo : Int) (n : Nat) : It := ⟨fun i _ => i < n, fun i H x H' => H' = H ∧ x = .int (lo + i), fun i _ => n ≤ i⟩
theorem turn_list {P : Program} {w : World} {K : PySem.W.Frag} {tg : Expr} (a it : Addr) : Turn P w K tg (Itl K a) [it] it (fun i h => h.IsListIter it a i) where
  mem := by simp
  obj := fun i h st b hb => by
    have e : b = it := by simpa using hb
    subst e
    obtain ⟨o, e, c, d⟩ := st
    exact ⟨o, e, fun v z => by rw [d] at z; cases z⟩
  keep := fun i h h' st k => st.at fun o e => k it (by simp) o e
  item := by
    intro X hP hw hK hc i pins s σ H E I hf st hg
    subst hP hw hK
    obtain ⟨xs, x, hq, hx⟩ := hg
    obtain ⟨its, rv, p, hz⟩ := I.list hq
    obtain ⟨u, hu, ru⟩ := rv.get hx
    obtain ⟨f0, f1, f2, f3, f4, f5⟩ := hf it (by simp)
    refine wpAny_pyNext_list_item st p.isList (x := u) (by simpa using hu) fun h' st' sb => ?_
    have I1 : Inv X pins σ H { s with heap := h' } := I.turned (t' := s.toks) (fun b o hb e => (sb.2 b hb).trans e) f0 f1 f3 f4 f5
    obtain ⟨o, e, c, d⟩ := id st'
    exact ⟨u, rfl, go_of (s := { s with heap := h' }) e c d (by decide) ⟨x, H, I1, ru, ⟨rfl, fun ys hy => by rw [I.list_inj hy hq]; exact hx⟩, st', fun b hb => (hf b hb).1⟩⟩
  done := by
    intro X hP hw hK hc i pins s σ H E I hf st hg
    subst hP hw hK
    obtain ⟨xs, hq, hx⟩ := hg
    obtain ⟨its, rv, p, hz⟩ := I.list hq
    obtain ⟨f0, f1, f2, f3, f4, f5⟩ := hf it (by simp)
    have hl := rv.length
    exact wpAny_pyNext_list_end (I.ok.hd hc) st p.isList (by simp; (first | with_reducible assumption | lia | omega)) fun h' eb => ⟨rfl, I.turned (t' := s.toks) (fun b o hb e => eb b o hb e) f0 f1 f3 f4 f5⟩
  self := fun _ _ _ _ _ st h => wpAny_pyIter_listiter st h
theorem turn_range {P : Program} {w : World} {K : PySem.W.Frag} {tg : Expr} (it : Addr) (lo : Int) (n : Nat) : Turn P w K tg (Itr lo n) [it] it (fun i h => IsRangeIter h it (lo + (i : Nat) * 1) ((n : Int) - (i : Nat)) 1) where
  mem := by simp
  obj := fun i h st b hb => by
    have e : b = it := by simpa using hb
    subst e
    exact ⟨_, st, fun v z => by
      have z' : Data.fields _ = Data.cell v := z
      cases z'⟩
  keep := fun i h h' st k => k it (by simp) _ st
  item := by
    intro X hP hw hK hc i pins s σ H E I hf st hg
    subst hP hw hK
    obtain ⟨f0, f1, f2, f3, f4, f5⟩ := hf it (by simp)
    have W := Walks.range (prog := X.prog) (w := X.w) (I.ok.hd hc) it lo 1 n
    refine W.item i s _ _ hg st fun v h' tk hv st' kk => ?_
    obtain ⟨t, rfl⟩ := hv
    have I1 : Inv X pins σ H { s with heap := h', toks := tk } := I.turned (fun b o hb e => kk b o (by simpa using hb) e) f0 f1 f3 f4 f5
    refine ⟨_, rfl, go_of (s := { s with heap := h', toks := tk }) (n := "range_iterator") st' rfl rfl (by decide) ⟨.int (lo + i), H, I1, ⟨t, ?_⟩, ⟨rfl, rfl⟩, st', fun b hb => (hf b hb).1⟩⟩
    rw [Int.mul_one]
  done := by
    intro X hP hw hK hc i pins s σ H E I hf st hg
    subst hP hw hK
    obtain ⟨f0, f1, f2, f3, f4, f5⟩ := hf it (by simp)
    exact wpAny_pyNext_range_end (I.ok.hd hc) st (by have : n ≤ i := hg; (first | with_reducible assumption | lia | omega)) fun h' eb => ⟨rfl, I.turned (t' := s.toks) (fun b o hb e => eb b o hb e) f0 f1 f3 f4 f5⟩
  self := fun _ _ _ _ _ st h => wpAny_pyIter_rangeiter st h
end L2
namespace L2
open PySem PySem.Spec PyProof.Rows
section
variable {X : Cx} {tg : Expr}
inductive IiList (K : PySem.W.Frag) (x : V) (H1 : Hp) (R : It → Hp → Prop) : Prop where
  | mk (a : Addr) (e : x = .ref a) (h : ∃ xs, SqL K H1 a xs) (r : R (Itl K a) H1) : IiList K x H1 R
noncomputable def iList (K : PySem.W.Frag) (tl : TE) : TI := fun σ H R => tl σ H fun x H1 => IiList K x H1 R
theorem pi_list {l : Expr} {tl : TE} (hl : PE X l tl) : PI X tg l (iList X.K tl) := by
  intro pins s σ H R I h
  refine thn (hl pins s σ H _ I h) fun v s1 hq_ => EPe hq_ fun x H1 I1 r1 q1 => ?_
  obtain ⟨a, e, ⟨xs, hq⟩, q⟩ := q1
  subst e
  cases r1
  obtain ⟨its, rv, p, hz⟩ := I1.list hq
  refine wpAny_pyIter_list p.isList ?_
  refine ⟨s1.heap.objs.size, [s1.heap.objs.size], _, _, H1, rfl, I1.kept (t' := s1.toks) fun b o e => Heap.get?_push_of_some _ e, turn_list a _, ⟨_, Heap.get?_push_size _ rfl, rfl, rfl⟩, fun b hb => ?_, q⟩
  have e : b = s1.heap.objs.size := by simpa using hb
  subst e
  exact I1.fpOk (Nat.le_refl _) (I1.hok.fresh (Nat.le_refl _))
theorem range_it {pins : List (Addr × Obj)} {σ : St} {H : Hp} {s : Shared} {R : It → Hp → Prop} {E : Value → Shared → Prop} {lo hi : Int} {t u v : Tok} {tk : Nat} (I : Inv X pins σ H s) (h1 : -(2 ^ 62) ≤ lo) (h2 : lo < 2 ^ 62) (h3 : -(2 ^ 62) ≤ hi) (h4 : hi < 2 ^ 62)
    (q : R (Itr lo (hi - lo).toNat) H) : wpAny (model X.prog X.w) X.A (pyIter (.ref s.heap.objs.size)) (PIE X pins σ tg R) E { s with heap := s.heap.push { cls := .type "range", data := .fields #[.int lo t, .int hi u, .int 1 v] }, toks := tk } := by
  refine wpAny_pyIter_range (IsRange.new ..) (small_one h1 h2 h3 h4) ?_
  have I1 : Inv X pins σ H { s with heap := s.heap.push { cls := .type "range", data := .fields #[.int lo t, .int hi u, .int 1 v] }, toks := tk } := I.kept fun b o e => Heap.get?_push_of_some _ e
  refine ⟨(s.heap.push { cls := .type "range", data := .fields #[.int lo t, .int hi u, .int 1 v] }).objs.size, [(s.heap.push { cls := .type "range", data := .fields #[.int lo t, .int hi u, .int 1 v] }).objs.size], _, _, H, rfl,
    I1.kept (t' := tk) fun b o e => Heap.get?_push_of_some _ e, turn_range _ lo (hi - lo).toNat, ?_, fun b hb => ?_, q⟩
  · have e1 : lo + ((0 : Nat) : Int) * 1 = lo := by simp
    have e2 : (((hi - lo).toNat : Nat) : Int) - ((0 : Nat) : Int) = Builtin.Range.rangeSize lo hi 1 := by rw [rangeSize_one]; split <;> (first | with_reducible assumption | lia | omega)
    show IsRangeIter _ _ (lo + ((0 : Nat) : Int) * 1) ((((hi - lo).toNat : Nat) : Int) - ((0 : Nat) : Int)) 1
    rw [e1, e2]
    exact Heap.get?_push_size _ rfl
  · have e : b = (s.heap.push { cls := .type "range", data := .fields #[.int lo t, .int hi u, .int 1 v] }).objs.size := by simpa using hb
    subst e
    exact I1.fpOk (Nat.le_refl _) (I1.hok.fresh (Nat.le_refl _))
inductive IiRng1 (vs : List V) (H1 : Hp) (R : It → Hp → Prop) : Prop where
  | mk (j : Int) (e : vs = [.int j]) (a : -(2 ^ 62) ≤ j) (b : j < 2 ^ 62) (r : R (Itr 0 j.toNat) H1) : IiRng1 vs H1 R
noncomputable def iRng1 (ta : TA) : TI := fun σ H R => ta σ H fun vs H1 => IiRng1 vs H1 R
inductive IiRng2 (vs : List V) (H1 : Hp) (R : It → Hp → Prop) : Prop where
  | mk (i j : Int) (e : vs = [.int i, .int j]) (a : -(2 ^ 62) ≤ i ∧ i < 2 ^ 62 ∧ -(2 ^ 62) ≤ j ∧ j < 2 ^ 62) (r : R (Itr i (j - i).toNat) H1) : IiRng2 vs H1 R
noncomputable def iRng2 (ta : TA) : TI := fun σ H R => ta σ H fun vs H1 => IiRng2 vs H1 R
theorem pi_range1 {a : Expr} {ta : TA} {p pos : Pos} (hg : Gl X "range") (hm : X.mg "range" = none) (ha : PA X [a] ta) (hs : starEach [a] X.env = [(false, eval a X.env)] := by rfl) : PI X tg (.Call (.Name "range" p) [a] [] pos) (iRng1 ta) := by
  intro pins s σ H R I h
  refine Call_ (ld_blt I hg hm boot_range (PyProof.Rows.callWith_type1 (thn (ha pos pins s σ H _ I h) fun us s1 hq_ => APe hq_ fun vs H1 I1 r1 q1 => ?_) hs rfl))
  obtain ⟨j, e, q1, q2, q⟩ := q1
  subst e
  cases r1 with
  | cons r rr =>
    cases rr
    obtain ⟨t, rfl⟩ := r
    exact call_range_1 (range_it I1 (by (first | with_reducible assumption | lia | omega)) (by (first | with_reducible assumption | lia | omega)) q1 q2 (by simpa using q))
theorem pi_range2 {a b : Expr} {ta : TA} {p pos : Pos} (hg : Gl X "range") (hm : X.mg "range" = none) (ha : PA X [a, b] ta) (hs : starEach [a, b] X.env = [(false, eval a X.env), (false, eval b X.env)] := by rfl) (hs2 : starEach [b] X.env = [(false, eval b X.env)] := by rfl) :
    PI X tg (.Call (.Name "range" p) [a, b] [] pos) (iRng2 ta) := by
  intro pins s σ H R I h
  refine Call_ (ld_blt I hg hm boot_range (PyProof.Rows.callWith_type1 (thn (ha pos pins s σ H _ I h) fun us s1 hq_ => APe hq_ fun vs H1 I1 r1 q1 => ?_) (by rw [hs, hs2]) (by rw [hs2]; rfl)))
  obtain ⟨i, j, e, ⟨q1, q2, q3, q4⟩, q⟩ := q1
  subst e
  cases r1 with
  | cons r rr =>
    cases rr with
    | cons r' rr =>
      cases rr
      obtain ⟨t, rfl⟩ := r
      obtain ⟨t', rfl⟩ := r'
      exact call_range_2 (range_it I1 q1 q2 q3 q4 q)
noncomputable def tFor (wi : TI) (g : TG) (tb : TS) : TS := fun D σ H => wi σ H fun J H1 => ∃ W : Nat → Nat → St → Hp → Prop, (∃ m, W 0 m σ H1) ∧ ∀ i m σ H, W i m σ H →
  (J.stop i H ∧ D.nx σ H) ∨ (J.go i H ∧ ∃ N : St → Hp → Prop, (∀ σ' H', N σ' H' → ∃ m', m' < m ∧ W (i + 1) m' σ' H') ∧ ∀ x H', J.yld i H x H' → g x σ H' fun σ2 H2 => tb { D with nx := N, ct := N, bk := D.nx } σ2 H2)
noncomputable def pinsAt (fp : List Addr) (h : Heap) : List (Addr × Obj) := fp.filterMap fun b => (h.get? b).map fun o => (b, o)
theorem mem_pinsAt {fp : List Addr} {h : Heap} {b : Addr} {o : Obj} (hb : b ∈ fp) (e : h.get? b = some o) : (b, o) ∈ pinsAt fp h := List.mem_filterMap.mpr ⟨b, hb, by rw [e]; rfl⟩
theorem of_pinsAt {fp : List Addr} {h : Heap} {p : Addr × Obj} (hp : p ∈ pinsAt fp h) : p.1 ∈ fp ∧ h.get? p.1 = some p.2 := by
  obtain ⟨b, hb, e⟩ := List.mem_filterMap.mp hp
  cases q : h.get? b with
  | none => rw [q] at e; cases e
  | some o =>
    rw [q] at e
    have e' : (b, o) = p := Option.some.inj e
    subst e'
    exact ⟨hb, q⟩
theorem Inv.pinned {pins : List (Addr × Obj)} {σ : St} {H : Hp} {s : Shared} {fp : List Addr} (I : Inv X pins σ H s) (hf : ∀ b ∈ fp, FpOk X pins H b) (ho : ∀ b ∈ fp, ∃ o, s.heap.get? b = some o ∧ ∀ v, o.data ≠ .cell v) : Inv X (pins ++ pinsAt fp s.heap) σ H s :=
  I.pins_of fun p hp => (List.mem_append.mp hp).elim (fun z => I.pin p (List.mem_append_right _ z)) fun z => by
    obtain ⟨hb, e⟩ := of_pinsAt z
    obtain ⟨f0, f1, f2, _⟩ := hf p.1 hb
    obtain ⟨o, e', d⟩ := ho p.1 hb
    rw [e] at e'; cases e'
    exact ⟨e, f0, f1, f2, d⟩
theorem Inv.unpinned {pins pl : List (Addr × Obj)} {σ : St} {H : Hp} {s : Shared} (I : Inv X (pins ++ pl) σ H s) : Inv X pins σ H s := I.pins_of fun p hp => I.pin p (List.mem_append_right _ (List.mem_append_left _ hp))
theorem ps_for {iter : Expr} {body : List Stmt} {wi : TI} {g : TG} {tb : TS} {pos : Pos} (hp : PassesOwn (model X.prog X.w) X.A X.env X.xe) (hc : X.calm = true) (hi : PI X tg iter wi) (hg : PG X tg g) (hb : PSs X body tb)
    (hs : ∀ x, foldedSetIterable iter X.env x = pure x := by intro _; rfl) : PS X (.For tg iter body [] pos) (tFor wi g tb) := by
  intro pins s σ H D I h
  refine wpAny_For (thn (hi pins s σ H _ I h) fun v s1 h1 => thn h1 fun itv s2 h2 => ?_) hs
  obtain ⟨it, fp, tn, J, H2, e, I2, T, st2, f2, W, ⟨m0, w0⟩, turn⟩ := h2
  subst e
  have stat : ∀ {H' : Hp}, (∀ b ∈ fp, H' b = none) → ∀ b ∈ fp, FpOk X pins H' b := fun hn b hb => ⟨hn b hb, (f2 b hb).2⟩
  refine codeAny_forLoop_any (fun n s' => ∃ i σ' H', Inv X pins σ' H' s' ∧ tn i s'.heap ∧ (∀ b ∈ fp, H' b = none) ∧ W i n σ' H') ?_ m0 ⟨0, σ, H2, I2, st2, fun b hb => (f2 b hb).1, w0⟩
  rintro n s3 ⟨i, σ3, H3, I3, st3, fr3, w3⟩
  rcases turn i n σ3 H3 w3 with ⟨stop, qn⟩ | ⟨go, N, hN, step⟩
  · refine wpAny_passesOwn hp (thn (T.done X rfl rfl rfl hc i pins s3 σ3 H3 X.xe I3 (stat fr3) st3 stop) fun r s4 ⟨hr, I4⟩ => ?_)
    subst hr
    exact wpAny_execs_nil ⟨σ3, H3, I4, qn⟩
  · refine wpAny_passesOwn hp (thn (T.item X rfl rfl rfl hc i pins s3 σ3 H3 X.xe I3 (stat fr3) st3 go) fun r s4 ⟨u, hr, h4⟩ => ?_)
    subst hr
    refine wpAny_passesOwn hp (thn h4 fun _ s5 ⟨x, H5, I5, r5, y5, st5, fr5⟩ => ?_)
    have I5' := I5.pinned (stat fr5) (T.obj _ _ st5)
    refine wpAny_passesOwn hp (thn (hg _ s5 σ3 H5 x u _ I5' r5 (step x H5 y5)) fun _ s6 ⟨σ6, H6, I6, q6⟩ => ?_)
    refine wpAny_passesOwn hp (thn (hb _ s6 σ6 H6 _ I6 q6) fun f s7 q7 => ?_)
    have again : ∀ {σ7 : St} {H7 : Hp}, Inv X (pins ++ pinsAt fp s5.heap) σ7 H7 s7 → N σ7 H7 → ∃ m, m < n ∧ ∃ i σ' H', Inv X pins σ' H' s7 ∧ tn i s7.heap ∧ (∀ b ∈ fp, H' b = none) ∧ W i m σ' H' := fun {σ7 H7} I7 n7 => by
      obtain ⟨m', hm, w7⟩ := hN σ7 H7 n7
      refine ⟨m', hm, i + 1, σ7, H7, I7.unpinned, T.keep _ _ _ st5 fun b hb o e => (I7.pin (b, o) (List.mem_append_right _ (List.mem_append_right _ (mem_pinsAt hb e)))).1, fun b hb => ?_, w7⟩
      obtain ⟨o, e, d⟩ := T.obj _ _ st5 b hb
      exact (I7.pin (b, o) (List.mem_append_right _ (List.mem_append_right _ (mem_pinsAt hb e)))).2.1
    cases f with
    | next => obtain ⟨σ7, H7, I7, n7⟩ := q7; exact again I7 n7
    | cont => obtain ⟨σ7, H7, I7, n7⟩ := q7; exact again I7 n7
    | brk => obtain ⟨σ7, H7, I7, q7⟩ := q7; exact ⟨σ7, H7, I7.unpinned, q7⟩
    | ret v => obtain ⟨x7, σ7, H7, I7, r7, q7⟩ := q7; exact ⟨x7, σ7, H7, I7.unpinned, r7, q7⟩
end
theorem for_list {K : PySem.W.Frag} {a : Addr} {xs : List V} {g : TG} {tb : TS} {D : Ends} {σ : St} {H : Hp} (Pv : Nat → St → Hp → Prop) (h0 : Pv 0 σ H) (hl : ∀ i σ H, i ≤ xs.length → Pv i σ H → SqL K H a xs)
    (hs : ∀ i x σ H, xs[i]? = some x → Pv i σ H → g x σ H fun σ2 H2 => tb { D with nx := Pv (i + 1), ct := Pv (i + 1), bk := D.nx } σ2 H2) (hd : ∀ σ H, Pv xs.length σ H → D.nx σ H) :
    ∃ W : Nat → Nat → St → Hp → Prop, (∃ m, W 0 m σ H) ∧ ∀ i m σ H, W i m σ H →
      ((Itl K a).stop i H ∧ D.nx σ H) ∨ ((Itl K a).go i H ∧ ∃ N : St → Hp → Prop, (∀ σ' H', N σ' H' → ∃ m', m' < m ∧ W (i + 1) m' σ' H') ∧ ∀ x H', (Itl K a).yld i H x H' → g x σ H' fun σ2 H2 => tb { D with nx := N, ct := N, bk := D.nx } σ2 H2) := by
  refine ⟨fun i m σ H => m = xs.length - i ∧ i ≤ xs.length ∧ Pv i σ H, ⟨xs.length, by simp, Nat.zero_le _, h0⟩, ?_⟩
  rintro i m σ H ⟨rfl, hi, p⟩
  have q := hl i σ H hi p
  by_cases hlt : i < xs.length
  · refine .inr ⟨⟨xs, xs[i], q, by simp [hlt]⟩, Pv (i + 1), fun σ' H' p' => ⟨xs.length - (i + 1), by (first | with_reducible assumption | lia | omega), rfl, hlt, p'⟩, fun x H' y => ?_⟩
    obtain ⟨e, y⟩ := y
    subst e
    exact hs i x σ _ (y xs q) p
  · have e : i = xs.length := by (first | with_reducible assumption | lia | omega)
    subst e
    exact .inl ⟨⟨xs, q, Nat.le_refl _⟩, hd σ H p⟩
theorem for_range {lo : Int} {n : Nat} {g : TG} {tb : TS} {D : Ends} {σ : St} {H : Hp} (Pv : Nat → St → Hp → Prop) (h0 : Pv 0 σ H)
    (hs : ∀ i σ H, i < n → Pv i σ H → g (.int (lo + i)) σ H fun σ2 H2 => tb { D with nx := Pv (i + 1), ct := Pv (i + 1), bk := D.nx } σ2 H2) (hd : ∀ σ H, Pv n σ H → D.nx σ H) :
    ∃ W : Nat → Nat → St → Hp → Prop, (∃ m, W 0 m σ H) ∧ ∀ i m σ H, W i m σ H →
      ((Itr lo n).stop i H ∧ D.nx σ H) ∨ ((Itr lo n).go i H ∧ ∃ N : St → Hp → Prop, (∀ σ' H', N σ' H' → ∃ m', m' < m ∧ W (i + 1) m' σ' H') ∧ ∀ x H', (Itr lo n).yld i H x H' → g x σ H' fun σ2 H2 => tb { D with nx := N, ct := N, bk := D.nx } σ2 H2) := by
  refine ⟨fun i m σ H => m = n - i ∧ i ≤ n ∧ Pv i σ H, ⟨n, by simp, Nat.zero_le _, h0⟩, ?_⟩
  rintro i m σ H ⟨rfl, hi, p⟩
  by_cases hlt : i < n
  · refine .inr ⟨hlt, Pv (i + 1), fun σ' H' p' => ⟨n - (i + 1), by (first | with_reducible assumption | lia | omega), rfl, hlt, p'⟩, fun x H' y => ?_⟩
    obtain ⟨e, y⟩ := y
    subst e y
    exact hs i σ _ hlt p
  · have e : i = n := by (first | with_reducible assumption | lia | omega)
    subst e
    exact .inl ⟨Nat.le_refl _, hd σ H p⟩
end L2
namespace L2
open PySem PySem.Spec PyProof.Rows
noncomputable abbrev R2 := V → V → Hp → VK → Prop
noncomputable def OpR (X : Cx) (f : Value → Value → Sem Value) (r : R2) : Prop :=
  ∀ (pins : List (Addr × Obj)) (s : Shared) (σ : St) (H : Hp) (x y : V) (v u : Value) (Q : VK), Inv X pins σ H s → RelV x v → RelV y u → r x y H Q →
    wpAny (model X.prog X.w) X.A (f v u) (EP X pins σ Q) X.xe s
noncomputable def CallR (X : Cx) (f : Value) (r : List V → Hp → VK → Prop) : Prop :=
  ∀ (pins : List (Addr × Obj)) (s : Shared) (σ : St) (H : Hp) (xs : List V) (us : List Value) (Q : VK), Inv X pins σ H s → Vals xs us → r xs H Q →
    wpAny (model X.prog X.w) X.A (call f us) (EP X pins σ Q) X.xe s
noncomputable def tOp (r : R2) (ta tb : TE) : TE := fun σ H Q => ta σ H fun x H1 => tb σ H1 fun y H2 => r x y H2 Q
inductive RII (C : Int → Int → Prop) (g : Int → Int → V) (x y : V) (H : Hp) (Q : VK) : Prop where
  | mk (i j : Int) (e1 : x = .int i) (e2 : y = .int j) (c : C i j) (q : Q (g i j) H) : RII C g x y H Q
noncomputable def rI (C : Int → Int → Prop) (g : Int → Int → V) : R2 := fun x y H Q => RII C g x y H Q
inductive RI0I (g : Int → Int → V) (x y : V) (H : Hp) (Q : VK) : Prop where
  | mk (i j : Int) (e1 : x = .int i) (e2 : y = .int j) (q : Q (g i j) H) : RI0I g x y H Q
noncomputable def rI0 (g : Int → Int → V) : R2 := fun x y H Q => RI0I g x y H Q
section
variable {X : Cx} {a b c : Expr} {ta tb tc : TE} {pos : Pos}
theorem binT (ha : PE X a ta) (hb : PE X b tb) {pins : List (Addr × Obj)} {s : Shared} {σ : St} {H : Hp} {R : V → V → Hp → Prop} (I : Inv X pins σ H s)
    (h : ta σ H fun x H1 => tb σ H1 fun y H2 => R x y H2) {Q : Value → Shared → Prop} {f : Value → Value → Sem Value}
    (hf : ∀ v u s2 x y H2, Inv X pins σ H2 s2 → RelV x v → RelV y u → R x y H2 → wpAny (model X.prog X.w) X.A (f v u) Q X.xe s2) :
    wpAny (model X.prog X.w) X.A (eval a X.env) (fun v s₁ => wpAny (model X.prog X.w) X.A (eval b X.env) (fun u s₂ => wpAny (model X.prog X.w) X.A (f v u) Q X.xe s₂) X.xe s₁) X.xe s := by
  refine thn (ha pins s σ H _ I h) fun v s1 hq_ => EPe hq_ fun x H1 I1 r1 q1 => ?_
  refine thn (hb pins s1 σ H1 _ I1 q1) fun u s2 hq_ => EPe hq_ fun y H2 I2 r2 q2 => ?_
  exact hf v u s2 x y H2 I2 r1 r2 q2
theorem pe_op {op : Operator} {r : R2} (ho : OpR X (binaryOp op) r) (ha : PE X a ta) (hb : PE X b tb) : PE X (.BinOp a op b pos) (tOp r ta tb) := by
  intro pins s σ H Q I h
  exact wpAny_BinOp (binT ha hb I h fun v u s2 x y H2 I2 rx ry q => ho pins s2 σ H2 x y v u Q I2 rx ry q)
theorem opI {f : Value → Value → Sem Value} {C : Int → Int → Prop} {g : Int → Int → Int}
    (rule : ∀ (i j : Int) (t u : Tok) (s : Shared) (Q : Value → Shared → Prop) (E : Value → Shared → Prop), C i j → Q (.int (g i j) s.toks) { s with toks := s.toks + 1 } → wpAny (model X.prog X.w) X.A (f (.int i t) (.int j u)) Q E s) :
    OpR X f (rI C fun i j => .int (g i j)) := by
  intro pins s σ H x y v u Q I rx ry h
  obtain ⟨i, j, rfl, rfl, hc, q⟩ := h
  obtain ⟨t, rfl⟩ := rx
  obtain ⟨t', rfl⟩ := ry
  exact rule i j t t' s _ _ hc ⟨.int (g i j), H, I.tok _, ⟨_, rfl⟩, q⟩
theorem opI0 {f : Value → Value → Sem Value} {g : Int → Int → Int}
    (rule : ∀ (i j : Int) (t u : Tok) (s : Shared) (Q : Value → Shared → Prop) (E : Value → Shared → Prop), Q (.int (g i j) s.toks) { s with toks := s.toks + 1 } → wpAny (model X.prog X.w) X.A (f (.int i t) (.int j u)) Q E s) :
    OpR X f (rI0 fun i j => .int (g i j)) := by
  intro pins s σ H x y v u Q I rx ry h
  obtain ⟨i, j, rfl, rfl, q⟩ := h
  obtain ⟨t, rfl⟩ := rx
  obtain ⟨t', rfl⟩ := ry
  exact rule i j t t' s _ _ ⟨.int (g i j), H, I.tok _, ⟨_, rfl⟩, q⟩
theorem opB0 {f : Value → Value → Sem Value} {g : Int → Int → Bool}
    (rule : ∀ (i j : Int) (t u : Tok) (s : Shared) (Q : Value → Shared → Prop) (E : Value → Shared → Prop), Q (.bool (g i j)) s → wpAny (model X.prog X.w) X.A (f (.int i t) (.int j u)) Q E s) :
    OpR X f (rI0 fun i j => .bl (g i j)) := by
  intro pins s σ H x y v u Q I rx ry h
  obtain ⟨i, j, rfl, rfl, q⟩ := h
  obtain ⟨t, rfl⟩ := rx
  obtain ⟨t', rfl⟩ := ry
  exact rule i j t t' s _ _ ⟨.bl (g i j), H, I, rfl, q⟩
noncomputable def CDiv (i j : Int) : Prop := 0 < j ∧ j < 1073741824
noncomputable def CPow (i j : Int) : Prop := 0 ≤ j ∧ j ≤ 1000000 ∧ i.natAbs < 2 ^ 64
noncomputable def CMul (i j : Int) : Prop := (-(2 ^ 64) < i ∧ i < 2 ^ 64) ∨ (-(2 ^ 64) < j ∧ j < 2 ^ 64)
theorem CMul.ok {i j : Int} (h : CMul i j) : IntMulOk i j := by
  rcases h with ⟨h1, h2⟩ | ⟨h1, h2⟩
  · exact .of_left (intBits_le_64 h1 h2)
  · exact .of_right (intBits_le_64 h1 h2)
theorem op_add : OpR X (binaryOp .Add) (rI0 fun i j => .int (i + j)) := opI0 fun _ _ _ _ _ _ _ q => add_int q
theorem op_sub : OpR X (binaryOp .Sub) (rI0 fun i j => .int (i - j)) := opI0 fun _ _ _ _ _ _ _ q => sub_int q
theorem op_mul : OpR X (binaryOp .Mult) (rI CMul fun i j => .int (i * j)) := opI fun _ _ _ _ _ _ _ hc q => mul_int q hc.ok
theorem op_fdiv : OpR X (binaryOp .FloorDiv) (rI CDiv fun i j => .int (i / j)) := opI fun i j _ _ _ _ _ hc q => by
  have h1 : (0 : Int) < j := hc.1
  have h2 : j < 1073741824 := hc.2
  exact floordiv_int (by (first | with_reducible assumption | lia | omega)) (by rw [Int.fdiv_eq_ediv_of_nonneg i (by (first | with_reducible assumption | lia | omega))]; exact q) (.inl (PyProof.noPylong_small (by (first | with_reducible assumption | lia | omega))))
theorem op_mod : OpR X (binaryOp .Mod) (rI (fun _ j => 0 < j) fun i j => .int (i % j)) := opI fun i j _ _ _ _ _ hc q => by
  have h1 : (0 : Int) < j := hc
  exact mod_int' (by (first | with_reducible assumption | lia | omega)) (by rw [Int.fmod_eq_emod_of_nonneg i (by (first | with_reducible assumption | lia | omega))]; exact q)
theorem op_pow : OpR X (binaryOp .Pow) (rI CPow fun i j => .int (i ^ j.toNat)) := opI fun _ _ _ _ _ _ _ hc q => pow_int_small hc.1 hc.2.1 hc.2.2 q
end
noncomputable def scal : V → V → Bool
  | .non, .non => true | .non, .int _ => true | .int _, .non => true | .non, .bl _ => true | .bl _, .non => true | .non, .str _ => true | .str _, .non => true
  | .int _, .int _ => true | .bl _, .bl _ => true | .str _, .str _ => true | .byt _, .byt _ => true
  | .int _, .str _ => true | .str _, .int _ => true | .bl _, .str _ => true | .str _, .bl _ => true
  | _, _ => false
noncomputable def rEq : R2 := fun x y H Q => scal x y = true ∧ Q (.bl (decide (x = y))) H
noncomputable def rNe : R2 := fun x y H Q => scal x y = true ∧ Q (.bl (!decide (x = y))) H
theorem dec_int {i j : Int} : decide (V.int i = V.int j) = (i == j) := by
  rw [Bool.eq_iff_iff]
  simp
theorem dec_bl {i j : Bool} : decide (V.bl i = V.bl j) = (i == j) := by
  rw [Bool.eq_iff_iff]
  simp
theorem dec_str {i j : Str} : decide (V.str i = V.str j) = (i == j) := by
  rw [Bool.eq_iff_iff]
  simp
theorem dec_byt {i j : Array UInt8} : decide (V.byt i = V.byt j) = (i.toList == j.toList) := by
  rw [Bool.eq_iff_iff]
  cases i
  cases j
  simp
section
variable {X : Cx} {a b c : Expr} {ta tb tc : TE} {pos : Pos}
theorem fin_bl {pins : List (Addr × Obj)} {σ : St} {H : Hp} {s : Shared} {Q : VK} {k k' : Bool} (I : Inv X pins σ H s) (q : Q (.bl k) H) (e : k = k') : EP X pins σ Q (.bool k') s := by
  subst e
  exact ⟨.bl k, H, I, rfl, q⟩
theorem op_eq : OpR X (compareOp .Eq) rEq := by
  intro pins s σ H x y v u Q I rx ry h
  obtain ⟨hs, q⟩ := h
  cases x with
  | non =>
    cases rx
    cases y with
    | non => cases ry; exact PySem.EqNone.eq_none_none (fin_bl I q (by simp))
    | bl j => cases ry; exact PySem.EqNone.eq_none_bool (fin_bl I q (by simp))
    | int j => obtain ⟨t', rfl⟩ := ry; exact PySem.EqNone.eq_none_int (fin_bl I q (by simp))
    | str j => obtain ⟨t', rfl⟩ := ry; exact PySem.EqNone.eq_none_str (fin_bl I q (by simp))
    | _ => exact absurd (show false = true from hs) Bool.false_ne_true
  | bl i =>
    cases rx
    cases y with
    | non => cases ry; exact PySem.EqNone.eq_bool_none (fin_bl I q (by simp))
    | bl j => cases ry; exact eq_bool (fin_bl I q dec_bl)
    | str j => obtain ⟨t', rfl⟩ := ry; exact PySem.EqMixed.eq_bool_str (fin_bl I q (by simp))
    | _ => exact absurd (show false = true from hs) Bool.false_ne_true
  | int i =>
    obtain ⟨t, rfl⟩ := rx
    cases y with
    | non => cases ry; exact PySem.EqNone.eq_int_none (fin_bl I q (by simp))
    | int j => obtain ⟨t', rfl⟩ := ry; exact eq_int (fin_bl I q dec_int)
    | str j => obtain ⟨t', rfl⟩ := ry; exact PySem.EqMixed.eq_int_str (fin_bl I q (by simp))
    | _ => exact absurd (show false = true from hs) Bool.false_ne_true
  | str i =>
    obtain ⟨t, rfl⟩ := rx
    cases y with
    | non => cases ry; exact PySem.EqNone.eq_str_none (fin_bl I q (by simp))
    | bl j => cases ry; exact PySem.EqMixed.eq_str_bool (fin_bl I q (by simp))
    | int j => obtain ⟨t', rfl⟩ := ry; exact PySem.EqMixed.eq_str_int (fin_bl I q (by simp))
    | str j => obtain ⟨t', rfl⟩ := ry; exact eq_str (fin_bl I q dec_str)
    | _ => exact absurd (show false = true from hs) Bool.false_ne_true
  | byt i =>
    obtain ⟨t, rfl⟩ := rx
    cases y with
    | byt j => obtain ⟨t', rfl⟩ := ry; exact PySem.W.eq_bytes (fin_bl I q dec_byt)
    | _ => exact absurd (show false = true from hs) Bool.false_ne_true
  | _ => cases y <;> exact absurd (show false = true from hs) Bool.false_ne_true
theorem op_ne : OpR X (compareOp .NotEq) rNe := by
  intro pins s σ H x y v u Q I rx ry h
  obtain ⟨hs, q⟩ := h
  cases x with
  | non =>
    cases rx
    cases y with
    | non => cases ry; exact PySem.EqNone.ne_none_none (fin_bl I q (by simp))
    | bl j => cases ry; exact PySem.EqNone.ne_none_bool (fin_bl I q (by simp))
    | int j => obtain ⟨t', rfl⟩ := ry; exact PySem.EqNone.ne_none_int (fin_bl I q (by simp))
    | str j => obtain ⟨t', rfl⟩ := ry; exact PySem.EqNone.ne_none_str (fin_bl I q (by simp))
    | _ => exact absurd (show false = true from hs) Bool.false_ne_true
  | bl i =>
    cases rx
    cases y with
    | non => cases ry; exact PySem.EqNone.ne_bool_none (fin_bl I q (by simp))
    | bl j => cases ry; exact ne_bool (fin_bl I q (congrArg not dec_bl))
    | str j => obtain ⟨t', rfl⟩ := ry; exact PySem.EqMixed.ne_bool_str (fin_bl I q (by simp))
    | _ => exact absurd (show false = true from hs) Bool.false_ne_true
  | int i =>
    obtain ⟨t, rfl⟩ := rx
    cases y with
    | non => cases ry; exact PySem.EqNone.ne_int_none (fin_bl I q (by simp))
    | int j => obtain ⟨t', rfl⟩ := ry; exact ne_int (fin_bl I q (congrArg not dec_int))
    | str j => obtain ⟨t', rfl⟩ := ry; exact PySem.EqMixed.ne_int_str (fin_bl I q (by simp))
    | _ => exact absurd (show false = true from hs) Bool.false_ne_true
  | str i =>
    obtain ⟨t, rfl⟩ := rx
    cases y with
    | non => cases ry; exact PySem.EqNone.ne_str_none (fin_bl I q (by simp))
    | bl j => cases ry; exact PySem.EqMixed.ne_str_bool (fin_bl I q (by simp))
    | int j => obtain ⟨t', rfl⟩ := ry; exact PySem.EqMixed.ne_str_int (fin_bl I q (by simp))
    | str j => obtain ⟨t', rfl⟩ := ry; exact ne_str (fin_bl I q (congrArg not dec_str))
    | _ => exact absurd (show false = true from hs) Bool.false_ne_true
  | byt i =>
    obtain ⟨t, rfl⟩ := rx
    cases y with
    | byt j => obtain ⟨t', rfl⟩ := ry; exact PySem.W.ne_bytes (fin_bl I q (congrArg not dec_byt))
    | _ => exact absurd (show false = true from hs) Bool.false_ne_true
  | _ => cases y <;> exact absurd (show false = true from hs) Bool.false_ne_true
theorem op_lt : OpR X (compareOp .Lt) (rI0 fun i j => .bl (decide (i < j))) := opB0 fun _ _ _ _ _ _ _ q => lt_int q
theorem op_le : OpR X (compareOp .LtE) (rI0 fun i j => .bl (decide (i ≤ j))) := opB0 fun _ _ _ _ _ _ _ q => le_int q
theorem op_gt : OpR X (compareOp .Gt) (rI0 fun i j => .bl (decide (j < i))) := opB0 fun _ _ _ _ _ _ _ q => gt_int q
theorem op_ge : OpR X (compareOp .GtE) (rI0 fun i j => .bl (decide (j ≤ i))) := opB0 fun _ _ _ _ _ _ _ q => ge_int q
theorem nomark (b : Expr) {op : CmpOp} (h : op ≠ .In := by decide) (h2 : op ≠ .NotIn := by decide) : behindInMarks op b = false := by
  have e1 : (op == CmpOp.In) = false := by cases op <;> first | rfl | exact absurd rfl h
  have e2 : (op == CmpOp.NotIn) = false := by cases op <;> first | rfl | exact absurd rfl h2
  cases b <;> simp [behindInMarks, e1, e2]
theorem pe_cmpR {op : CmpOp} {r : R2} (ho : OpR X (compareOp op) r) (ha : PE X a ta) (hb : PE X b tb) (hm : behindInMarks op b = false) : PE X (.Compare a [op] [b] pos) (tOp r ta tb) := by
  intro pins s σ H Q I h
  exact wpAny_Compare1 (binT ha hb I h fun v u s2 x y H2 I2 rx ry q => ho pins s2 σ H2 x y v u Q I2 rx ry q) hm
noncomputable def tTest (t : TE) : TT := fun σ H Q => t σ H fun x H' => IsBl x H' Q
theorem pt_cmpR {op : CmpOp} {r : R2} (ho : OpR X (compareOp op) r) (ha : PE X a ta) (hb : PE X b tb) (hm : behindInMarks op b = false) : PT X (.Compare a [op] [b] pos) (tTest (tOp r ta tb)) := by
  intro pins s σ H Q I h
  refine wpAny_isTrue_Compare1 (thn (ha pins s σ H _ I h) fun v s1 hq_ => EPe hq_ fun x H1 I1 r1 q1 => thn (hb pins s1 σ H1 _ I1 q1) fun u s2 hq_ => EPe hq_ fun y H2 I2 r2 q2 =>
    thn (ho pins s2 σ H2 x y v u _ I2 r1 r2 q2) fun c s3 hq_ => EPe hq_ fun z H3 I3 r3 ⟨k, e, q3⟩ => ?_) hm
  subst e
  cases r3
  exact wpAny_truthy_bool ⟨H3, I3, q3⟩
noncomputable def tChain (r r' : R2) (ta tb tc : TE) : TE := fun σ H Q => ta σ H fun x H1 => tb σ H1 fun y H2 => r x y H2 fun z H3 => ∃ k, z = .bl k ∧
  (if k = true then tc σ H3 fun w' H4 => r' y w' H4 Q else Q (.bl false) H3)
theorem pe_chain {op op' : CmpOp} {r r' : R2} (ho : OpR X (compareOp op) r) (ho' : OpR X (compareOp op') r') (ha : PE X a ta) (hb : PE X b tb) (hc : PE X c tc)
    (hm : lastMarks [op, op'] [b, c] = false := by with_unfolding_all rfl) : PE X (.Compare a [op, op'] [b, c] pos) (tChain r r' ta tb tc) := by
  intro pins s σ H Q I h
  refine Compare_chain (thn (ha pins s σ H _ I h) fun v s1 hq_ => EPe hq_ fun x H1 I1 r1 q1 => chain_link (thn (hb pins s1 σ H1 _ I1 q1) fun u s2 hq_ => EPe hq_ fun y H2 I2 r2 q2 =>
    thn (ho pins s2 σ H2 x y v u _ I2 r1 r2 q2) fun d s3 hq_ => EPe hq_ fun z H3 I3 r3 ⟨k, e, q3⟩ => ?_)) hm
  subst e
  cases r3
  refine wpAny_truthy_bool ?_
  cases k with
  | false => exact ite_ff ⟨.bl false, H3, I3, rfl, q3⟩
  | true => exact ite_tt (chain_last (thn (hc pins s3 σ H3 _ I3 q3) fun w' s4 hq_ => EPe hq_ fun z' H4 I4 r4 q4 => ho' pins s4 σ H4 y z' u w' Q I4 r2 r4 q4))
theorem pt_chain {op op' : CmpOp} {r r' : R2} (ho : OpR X (compareOp op) r) (ho' : OpR X (compareOp op') r') (ha : PE X a ta) (hb : PE X b tb) (hc : PE X c tc)
    (hm : lastMarks [op, op'] [b, c] = false := by with_unfolding_all rfl) : PT X (.Compare a [op, op'] [b, c] pos) (tTest (tChain r r' ta tb tc)) := by
  intro pins s σ H Q I h
  refine isTrue_chain (thn (ha pins s σ H _ I h) fun v s1 hq_ => EPe hq_ fun x H1 I1 r1 q1 => test_link (thn (hb pins s1 σ H1 _ I1 q1) fun u s2 hq_ => EPe hq_ fun y H2 I2 r2 q2 =>
    thn (ho pins s2 σ H2 x y v u _ I2 r1 r2 q2) fun d s3 hq_ => EPe hq_ fun z H3 I3 r3 ⟨k, e, q3⟩ => ?_)) hm
  subst e
  cases r3
  refine wpAny_truthy_bool ?_
  cases k with
  | false =>
    obtain ⟨k', e', q'⟩ := q3
    cases e'
    exact ite_ff ⟨H3, I3, q'⟩
  | true =>
    refine ite_tt (test_last (thn (hc pins s3 σ H3 _ I3 q3) fun w' s4 hq_ => EPe hq_ fun z' H4 I4 r4 q4 => thn (ho' pins s4 σ H4 y z' u w' _ I4 r2 r4 q4) fun d' s5 hq_ => EPe hq_ fun z2 H5 I5 r5 ⟨k2, e2, q5⟩ => ?_))
    subst e2
    cases r5
    exact wpAny_truthy_bool ⟨H5, I5, q5⟩
theorem line63 : (sizeLine : Nat) < 2 ^ 63 := by rw [sizeLine_eq]; decide
theorem vals1 {x : V} {us : List Value} (r : Vals [x] us) : ∃ u, us = [u] ∧ RelV x u := by
  cases r with
  | cons r1 r2 => cases r2; exact ⟨_, rfl, r1⟩
theorem vals2 {x y : V} {us : List Value} (r : Vals [x, y] us) : ∃ u w', us = [u, w'] ∧ RelV x u ∧ RelV y w' := by
  cases r with
  | cons r1 r2 =>
    cases r2 with
    | cons r3 r4 => cases r4; exact ⟨_, _, rfl, r1, r3⟩
end
end L2
namespace L2
open PySem PySem.Spec PyProof.Rows
structure ObjM (h : Heap) (x dx C : Addr) (mA : Str → Option Value) : Prop where
  obj : h.get? x = some (PySem.W.instObj C dx)
  ns : h.Ns1 dx mA
  ne : dx ≠ x
theorem lookIn_ns {h : Heap} {dx : Addr} {mA : Str → Option Value} (n : h.Ns1 dx mA) : ∃ od, h.get? dx = some od ∧ ∀ name, PySem.W.lookIn name od = some (mA name) := by
  obtain ⟨o, es, ep, ho, hd, hk, _, hm⟩ := n
  refine ⟨o, ho, fun name => ?_⟩
  have e := hm name
  unfold nsFind findBy at e
  rw [← Array.find?_toList] at e
  unfold PySem.W.lookIn
  rw [hd]
  try dsimp only
  split
  · rename_i y q
    rw [q] at e
    exact congrArg some e
  · rename_i q
    rw [q] at e
    have a : es.toList.any (·.refKey) = false := by
      rw [List.any_eq_false]
      intro y hy
      obtain ⟨z, t, hkey⟩ := hk y (Array.mem_toList_iff.mp hy)
      simp [DictEntry.refKey, hkey]
    have a' : ¬ es.toList.any (·.refKey) = true := by rw [a]; exact Bool.false_ne_true
    rw [if_neg a']
    exact congrArg some e
theorem ObjM.look {h : Heap} {x dx C : Addr} {mA : Str → Option Value} (I : ObjM h x dx C mA) : ∃ od, PySem.W.InstAt h x (PySem.W.instObj C dx) C (some od) ∧ ∀ name, PySem.W.lookIn name od = some (mA name) :=
  let ⟨od, ho, hl⟩ := lookIn_ns I.ns
  ⟨od, ⟨I.obj, rfl, rfl, ho⟩, hl⟩
section
variable {prog : Program} {w : World} {A : Around} {E : Value → Shared → Prop} {s : Shared} {K : PySem.W.Frag} {x dx C f : Addr} {mA : Str → Option Value} {name : Str} {v : Value}
theorem get_map {expr : Bool} {Q : Value → Shared → Prop} (X : K.In s.heap) (I : ObjM s.heap x dx C mA) (hg : PySem.W.plainGet K C name = true) (hh : PySem.W.hasDictIn K C = true)
    (ha : PySem.W.findIn K (.ref C) name = some none) (hv : mA name = some v) (hv' : PySem.W.handedIn v = true) (h : Q v { s with toks := s.toks + 1 }) :
    wpAny (model prog w) A (getAttr (.ref x) name expr) Q E s := by
  obtain ⟨od, J, hl⟩ := I.look
  exact PySem.W.get_value X J (PySem.W.plainGet_of hg).1 (PySem.W.findObj_own hh ha rfl (by rw [hl, hv])) hv' h
theorem get_meth {pl : Sem Bool} {Q : Value × List Value → Shared → Prop} (X : K.In s.heap) (I : ObjM s.heap x dx C mA) (hg : PySem.W.plainGet K C name = true)
    (hf : PySem.W.findIn K (.ref C) name = some (some (.ref f))) (ht : PySem.W.isFn K (.ref f) = true) (hv : mA name = none) (h : Q (.ref f, [.ref x]) s) :
    wpAny (model prog w) A (getMethod (.ref x) name pl) Q E s := by
  obtain ⟨od, J, hl⟩ := I.look
  exact PySem.W.method_fn X J (PySem.W.plainGet_of hg).1 (PySem.W.plainGet_of hg).2 hf (beq_iff_eq.mp ht) (by show (PySem.W.lookIn name od).map (·.isSome) = some false; rw [hl, hv]; rfl) h
theorem set_map {ns : List Str} {Q : Unit → Shared → Prop} (X : K.In s.heap) (I : ObjM s.heap x dx C mA)
    (hs : PySem.W.findIn K (.ref C) "__setattr__" = some (some (.builtin "object.__setattr__"))) (hp : PySem.W.plainOver K C = true) (ht : PySem.W.takerIn K C name = some none) (hh : PySem.W.hasDictIn K C = true)
    (hw : PySem.Within mA ns) (hsz : ns.length ≤ sizeLine)
    (h : ∀ h', ObjM h' x dx C (fun y => if y = name then some v else mA y) → Heap.SameBut dx s.heap h' → Q () { s with heap := h', toks := s.toks + 2 }) :
    wpAny (model prog w) A (setAttr (.ref x) name v) Q E s := by
  obtain ⟨od, J, hl⟩ := I.look
  refine PySem.W.set_plain X J hs (PySem.W.osa_open (s := { s with toks := s.toks + 1 }) (r := none) X J hp ht fun b => ?_)
  obtain ⟨cd, hc, hd'⟩ := PySem.W.any_some hh
  have hx : s.heap.get? x = some ⟨.ref C, some dx, .plain, #[]⟩ := I.obj
  refine wpAny_bind (wpAny_pure (wpAny_bind (wpAny_bind (wpAny_loadPart hx (wpAny_bind (PySem.W.Looks.here (s := { s with toks := s.toks + 1 }) (PySem.W.looks_clsIn X hc) ?_))))))
  rw [hd']
  refine wpAny_pure (a := some dx) (wpAny_bind (wpAny_pure (wpAny_bind ?_)))
  refine wpAny_nsSet1 (s := { s with toks := s.toks + 1 }) I.ns fun h' hn2 hs2 => ?_
  obtain ⟨oD, esD, epD, hoD, hdD, hcD⟩ := hn2.count (PySem.Within.cons name v hw)
  refine wpAny_bind (wpAny_lookBehind hoD (by rw [hdD]; exact pastItsLine_dict (Nat.le_trans hcD (by rw [List.length_cons]; (first | with_reducible assumption | lia | omega)))) ?_)
  exact wpAny_pure (h _ ⟨(hs2.2 _ (Ne.symm I.ne)).trans I.obj, hn2, I.ne⟩ hs2)
theorem make_map {R : Result → Shared → Prop} {vs : List Value} {kw : List (Str × Value)} (X : K.In s.heap) (hm : PySem.W.makesIn K C = true)
    (hi : PySem.W.findIn K (.ref C) "__init__" = some (some (.ref f))) (hf : PySem.W.typeIn K (.ref f) = some (.type "function"))
    (h : codeAny (model prog w) (A.under (.builtin "type.__call__" ⟨.ref C :: vs, kw⟩)) (.call (.ref f) ⟨.ref (s.heap.objs.size + 1) :: vs, kw⟩) (PySem.W.InitBack (s.heap.objs.size + 1) R)
      { s with heap := (s.heap.push PySem.W.emptyDict).push (PySem.W.instObj C s.heap.objs.size) }) :
    codeAny (model prog w) A (.call (.ref C) ⟨vs, kw⟩) R s := by
  obtain ⟨hh, g, d, t, os⟩ := s
  exact PySem.W.make_core (PySem.W.makes_of X hm) (PySem.W.looks_findIn X hi) (fun self => PySem.W.bind_fn X self hf) (.inl rfl) h
end
noncomputable def putF (f : Str) (v : V) : List (Str × V) → List (Str × V)
  | [] => [(f, v)]
  | (g, x) :: r => if g = f then (g, v) :: r else (g, x) :: putF f v r
theorem lookup_putF (f g : Str) (v : V) : ∀ fs : List (Str × V), (putF f v fs).lookup g = if g = f then some v else fs.lookup g
  | [] => by
    show List.lookup g [(f, v)] = _
    by_cases h : g = f
    · have hb : (g == f) = true := beq_iff_eq.mpr h
      simp only [List.lookup, hb, if_pos h]
    · have hb : (g == f) = false := beq_eq_false_iff_ne.mpr h
      simp only [List.lookup, hb, if_neg h]
  | (k, x) :: r => by
    have ih := lookup_putF f g v r
    rw [show putF f v ((k, x) :: r) = (if k = f then (k, v) :: r else (k, x) :: putF f v r) from rfl]
    by_cases hk : k = f
    · rw [if_pos hk]
      by_cases h : g = k
      · have hb : (g == k) = true := beq_iff_eq.mpr h
        simp only [List.lookup, hb, if_pos (h.trans hk)]
      · have hb : (g == k) = false := beq_eq_false_iff_ne.mpr h
        simp only [List.lookup, hb, if_neg (fun e : g = f => h (e.trans hk.symm))]
    · rw [if_neg hk]
      by_cases h : g = k
      · have hb : (g == k) = true := beq_iff_eq.mpr h
        simp only [List.lookup, hb, if_neg (fun e : g = f => hk (h.symm.trans e))]
      · have hb : (g == k) = false := beq_eq_false_iff_ne.mpr h
        simp only [List.lookup, hb]
        exact ih
theorem keys_putF (f : Str) (v : V) : ∀ fs : List (Str × V), f ∈ (putF f v fs).map (·.1) ∧ ∀ g, g ∈ fs.map (·.1) → g ∈ (putF f v fs).map (·.1)
  | [] => ⟨by simp [putF], fun g h => by simp at h⟩
  | (k, x) :: r => by
    obtain ⟨i1, i2⟩ := keys_putF f v r
    rw [show putF f v ((k, x) :: r) = (if k = f then (k, v) :: r else (k, x) :: putF f v r) from rfl]
    by_cases hk : k = f
    · rw [if_pos hk]
      subst hk
      exact ⟨by simp, fun g h => by simpa using h⟩
    · rw [if_neg hk]
      refine ⟨?_, fun g h => ?_⟩
      · rw [List.map_cons]
        exact List.mem_cons_of_mem _ i1
      · rw [List.map_cons] at h ⊢
        rcases List.mem_cons.mp h with e | e
        · exact List.mem_cons.mpr (.inl e)
        · exact List.mem_cons_of_mem _ (i2 g e)
theorem length_putF (f : Str) (v : V) : ∀ fs : List (Str × V), (putF f v fs).length ≤ fs.length + 1
  | [] => by simp [putF]
  | (k, x) :: r => by
    have ih := length_putF f v r
    rw [show putF f v ((k, x) :: r) = (if k = f then (k, v) :: r else (k, x) :: putF f v r) from rfl]
    by_cases hk : k = f
    · rw [if_pos hk, List.length_cons, List.length_cons]; (first | with_reducible assumption | lia | omega)
    · rw [if_neg hk, List.length_cons, List.length_cons]; (first | with_reducible assumption | lia | omega)
theorem RelO.some_of {v : V} {o : Option Value} (r : RelO (some v) o) : ∃ u, o = some u ∧ RelV v u := by
  cases o with
  | none => exact (show False from r).elim
  | some u => exact ⟨u, rfl, r⟩
theorem RelO.none_of {o : Option Value} (r : RelO none o) : o = none := by
  cases o with
  | none => rfl
  | some u => exact (show False from r).elim
theorem handed_of {v : V} {u : Value} (r : RelV v u) : PySem.W.handedIn u = true := by
  cases v with
  | non => cases (show u = Value.none from r); rfl
  | bl b => cases (show u = Value.bool b from r); rfl
  | int i => obtain ⟨t, e⟩ := (show ∃ t, u = Value.int i t from r); cases e; rfl
  | str x => obtain ⟨t, e⟩ := (show ∃ t, u = Value.str x t from r); cases e; rfl
  | byt b => obtain ⟨t, e⟩ := (show ∃ t, u = Value.bytes b t from r); cases e; rfl
  | flt b => obtain ⟨t, e⟩ := (show ∃ t, u = Value.float b t from r); cases e; rfl
  | ref a => cases (show u = Value.ref a from r); rfl
  | ty n => cases (show u = Value.type n from r); rfl
section
variable {P : Program} {w : World} {H H' : Hp} {h h' : Heap} {a C dx : Addr} {fs fs' : List (Str × V)}
theorem ins_get (hok : HOk P w H h) (e : H a = some (.ins C dx fs)) : ∃ mA, ObjM h a dx C mA ∧ (∀ f, RelO (fs.lookup f) (mA f)) ∧ PySem.Within mA (fs.map (·.1)) ∧ fs.length ≤ 1000 ∧ H dx = some (.own a) := by
  obtain ⟨d, z, ne, ob, mA, n, r, q⟩ := (show ObjOk P w H h a (.ins C dx fs) from hok a _ e)
  exact ⟨mA, ⟨ob, n, ne⟩, r, q, z, d⟩
end
structure Cls (K : PySem.W.Frag) (C : Addr) : Prop where
  pg : PySem.W.plainGet K C Str.empty = true
  hd : PySem.W.hasDictIn K C = true
  po : PySem.W.plainOver K C = true
  sa : PySem.W.findIn K (.ref C) "__setattr__" = some (some (.builtin "object.__setattr__"))
theorem Cls.get {K : PySem.W.Frag} {C : Addr} (c : Cls K C) (f : Str) : PySem.W.plainGet K C f = true := c.pg
noncomputable def NoAttr (K : PySem.W.Frag) (C : Addr) (f : Str) : Prop := PySem.W.findIn K (.ref C) f = some none
theorem NoAttr.taker {K : PySem.W.Frag} {C : Addr} {f : Str} (n : NoAttr K C f) : PySem.W.takerIn K C f = some none := by
  unfold PySem.W.takerIn
  rw [show PySem.W.findIn K (.ref C) f = some none from n]
  rfl
structure Con (K : PySem.W.Frag) (C : Addr) (f : Str) (v : V) (u : Value) : Prop where
  at_ : PySem.W.findIn K (.ref C) f = some (some u)
  rel : RelV v u
  get : PySem.W.specialIn K u "__get__" = some none
  cp : PySem.W.copiedNames.contains f = false
structure Meth (K : PySem.W.Frag) (C : Addr) (m : Str) (f : Addr) : Prop where
  at_ : PySem.W.findIn K (.ref C) m = some (some (.ref f))
  fn : PySem.W.isFn K (.ref f) = true
  kp : PySem.W.keepIn K (.ref f) = true
section
variable {X : Cx} {pins : List (Addr × Obj)} {σ : St} {H : Hp} {s : Shared} {a C dx : Addr} {fs : List (Str × V)} {f : Str} {v : V} {A : Around} {E : Value → Shared → Prop}
theorem getattr_ok {b : Bool} {Q : Value → Shared → Prop} (I : Inv X pins σ H s) (e : H a = some (.ins C dx fs)) (c : Cls X.K C) (n : NoAttr X.K C f) (l : fs.lookup f = some v)
    (h : ∀ u s', Inv X pins σ H s' → RelV v u → Q u s') : wpAny (model X.prog X.w) A (getAttr (.ref a) f b) Q E s := by
  obtain ⟨mA, O, r, _, _, _⟩ := ins_get I.hok e
  obtain ⟨u, hu, ru⟩ := RelO.some_of (v := v) (o := mA f) (by rw [← l]; exact r f)
  exact get_map I.kIn O (c.get f) c.hd n hu (handed_of ru) (h u _ (I.tok _) ru)
theorem getmeth_ok {m : Str} {g : Addr} {pl : Sem Bool} {Q : Value × List Value → Shared → Prop} (I : Inv X pins σ H s) (e : H a = some (.ins C dx fs)) (c : Cls X.K C) (k : Meth X.K C m g) (l : fs.lookup m = none)
    (h : Q (.ref g, [.ref a]) s) : wpAny (model X.prog X.w) A (getMethod (.ref a) m pl) Q E s := by
  obtain ⟨mA, O, r, _, _, _⟩ := ins_get I.hok e
  have hn : mA m = none := RelO.none_of (by rw [← l]; exact r m)
  exact get_meth I.kIn O (c.get m) k.at_ k.fn hn h
theorem setattr_ok {y : V} {u : Value} {Q : Unit → Shared → Prop} (I : Inv X pins σ H s) (e : H a = some (.ins C dx fs)) (c : Cls X.K C) (n : NoAttr X.K C f) (hl : fs.length < 1000) (ry : RelV y u)
    (h : ∀ s', Inv X pins σ (upd H a (.ins C dx (putF f y fs))) s' → Q () s') : wpAny (model X.prog X.w) A (setAttr (.ref a) f u) Q E s := by
  obtain ⟨mA, O, r, wi, _, ho⟩ := ins_get I.hok e
  have hz : (fs.map (·.1)).length ≤ sizeLine := by rw [List.length_map, sizeLine_eq]; (first | with_reducible assumption | lia | omega)
  refine set_map I.kIn O c.sa c.po n.taker c.hd wi hz fun h' O' sb => h _ ?_
  have hd : ∃ o, h'.get? dx = some o := let ⟨o, _, _, e', _⟩ := O'.ns; ⟨o, e'⟩
  refine I.write (x := a) (e := dx) (by rw [e]; exact True.intro) (.inr ho) (fun b q hb z => (sb.2 b hb).trans z) hd ?_
  refine ⟨by rw [upd_ne O.ne]; exact ho, ?_, O.ne, O'.obj, _, O'.ns, fun g => ?_, fun g hg => ?_⟩
  · have := length_putF f y fs; (first | with_reducible assumption | lia | omega)
  · show RelO ((putF f y fs).lookup g) (if g = f then some u else mA g)
    rw [lookup_putF]
    by_cases q : g = f
    · rw [if_pos q, if_pos q]; exact ry
    · rw [if_neg q, if_neg q]; exact r g
  · by_cases q : g = f
    · rw [q]; exact (keys_putF f y fs).1
    · refine (keys_putF f y fs).2 g (wi g fun z => hg ?_)
      show (if g = f then some u else mA g) = none
      rw [if_neg q]; exact z
theorem Inv.made (I : Inv X pins σ H s) : Inv X pins σ (upd (upd H s.heap.objs.size (.own (s.heap.objs.size + 1))) (s.heap.objs.size + 1) (.ins C s.heap.objs.size []))
    { s with heap := (s.heap.push PySem.W.emptyDict).push (PySem.W.instObj C s.heap.objs.size) } := by
  have e1 : (s.heap.push PySem.W.emptyDict).get? s.heap.objs.size = some PySem.W.emptyDict := Heap.get?_push_size s.heap rfl
  have e2 : ((s.heap.push PySem.W.emptyDict).push (PySem.W.instObj C s.heap.objs.size)).get? (s.heap.objs.size + 1) = some (PySem.W.instObj C s.heap.objs.size) := by
    have := Heap.get?_push_size (s.heap.push PySem.W.emptyDict) (o := PySem.W.instObj C s.heap.objs.size) rfl
    rwa [Heap.size_push] at this
  have e3 : (s.heap.push PySem.W.emptyDict).Ns s.heap.objs.size (fun _ => none) := ⟨PySem.W.emptyDict, #[], _, e1, rfl, (fun e he => absurd he (by simp)), fun _ => rfl⟩
  have I1 := I.laid (a := s.heap.objs.size) (o := .own (s.heap.objs.size + 1)) (h' := s.heap.push PySem.W.emptyDict) (t' := s.toks) (fun b u q => Heap.get?_push_of_some _ q) (Nat.le_refl _) ⟨_, e1⟩
  refine I1.laid (a := s.heap.objs.size + 1) (o := .ins C s.heap.objs.size []) (t' := s.toks) (fun b u q => Heap.get?_push_of_some _ q) (Nat.le_of_eq (Heap.size_push _ _)) ?_
  have ne : s.heap.objs.size ≠ s.heap.objs.size + 1 := Nat.ne_of_lt (Nat.lt_succ_self _)
  refine ⟨by rw [upd_ne ne, upd_same], Nat.zero_le _, ne, e2, fun _ => none, (Heap.Ns1.of_empty e3).at fun o q => Heap.get?_push_of_some _ q, fun _ => True.intro, fun y hy => absurd rfl hy⟩
theorem attr_of {prog : Program} {w : World} {env : Env} {e : Expr} {f : Str} {pos : Pos} {s : Shared} {Q : Value → Shared → Prop} (hb : attributeBase e f env (eval e env) = eval e env)
    (h : wpAny (model prog w) A (eval e env) (fun o s₁ => wpAny (model prog w) A (getAttr o f true) Q E s₁) E s) : wpAny (model prog w) A (eval (.Attribute e f pos) env) Q E s :=
  Attribute_any_ h (by rw [arm_eval_Attribute, hb])
end
noncomputable def tFld (K : PySem.W.Frag) (ta : TE) (f : Str) : TE := fun σ H Q => ta σ H fun x H1 => ∃ a C dx fs v, x = .ref a ∧ H1 a = some (.ins C dx fs) ∧ Cls K C ∧ NoAttr K C f ∧ fs.lookup f = some v ∧ Q v H1
noncomputable def sFld (K : PySem.W.Frag) (ta tv : TE) (f : Str) : TS := fun D σ H => tv σ H fun y H1 => ta σ H1 fun x H2 => ∃ a C dx fs, x = .ref a ∧ H2 a = some (.ins C dx fs) ∧ Cls K C ∧ NoAttr K C f ∧ fs.length < 1000 ∧
  D.nx σ (upd H2 a (.ins C dx (putF f y fs)))
section
variable {X : Cx} {o e value : Expr} {f : Str} {pos pos' tpos : Pos} {ta tv : TE}
theorem pe_fld (he : PE X e ta) (hb : attributeBase e f X.env (eval e X.env) = eval e X.env) : PE X (.Attribute e f pos) (tFld X.K ta f) := by
  intro pins s σ H Q I h
  refine attr_of hb (thn (he pins s σ H _ I h) fun u s1 hq_ => EPe hq_ fun x H1 I1 rx ⟨a, C, dx, fs, v, ex, ea, c, n, l, q⟩ => ?_)
  subst ex
  obtain rfl : u = Value.ref a := rx
  exact getattr_ok I1 ea c n l fun u' s2 I2 ru => ⟨v, H1, I2, ru, q⟩
theorem ps_fld (ha : PE X o ta) (hv : PE X value tv) (hs : swapsWith value (some (.Attribute o f pos')) pos.line X.env = pure false) : PS X (.Assign [.Attribute o f pos'] value pos) (sFld X.K ta tv f) := by
  intro pins s σ H D I h
  refine plainObj_wpAny_Assign_Attribute (thn (hv pins s σ H _ I h) fun u s1 hq_ => EPe hq_ fun y H1 I1 ry q => thn (ha pins s1 σ H1 _ I1 q) fun ov s2 hq_ => EPe hq_ fun x H2 I2 rx ⟨a, C, dx, fs, ex, ea, c, n, l, q2⟩ => ?_) hs
  subst ex
  obtain rfl : ov = Value.ref a := rx
  exact setattr_ok I2 ea c n l ry fun s3 I3 => ⟨σ, _, I3, q2⟩
end
section
variable {X : Cx} {pins : List (Addr × Obj)} {σ : St} {H : Hp} {s : Shared} {A : Around} {E : Value → Shared → Prop} {Q : Value → Shared → Prop} {c : Value} {b : Bool}
inductive TyOf (K : PySem.W.Frag) (H : Hp) : V → Value → Prop where
  | non : TyOf K H .non (.type "NoneType")
  | bl (x : Bool) : TyOf K H (.bl x) (.type "bool")
  | int (i : Int) : TyOf K H (.int i) (.type "int")
  | str (x : Str) : TyOf K H (.str x) (.type "str")
  | flt (x : UInt64) : TyOf K H (.flt x) (.type "float")
  | lst {a : Addr} {xs : List V} (e : H a = some (.lst xs)) : TyOf K H (.ref a) (.type "list")
  | frz {a : Addr} {o : Obj} {xs : List V} (e : H a = some (.frz o (.lst xs))) : TyOf K H (.ref a) (.type "list")
  | tup {a : Addr} {xs : List V} (e : H a = some (.tup xs)) : TyOf K H (.ref a) (.type "tuple")
  | dK {a : Addr} {kvs : List (Key × V)} (e : H a = some (.dK kvs)) : TyOf K H (.ref a) (.type "dict")
  | dT {a : Addr} {kvs : List (List Key × V)} (e : H a = some (.dT kvs)) : TyOf K H (.ref a) (.type "dict")
  | ins {a C dx : Addr} {fs : List (Str × V)} (e : H a = some (.ins C dx fs)) (cl : Cls K C) (ha : PySem.W.findIn K (.ref C) "__class__" = some (some (.builtin "object.__class__")))
      (hn : PySem.W.specialIn K (.builtin "object.__class__") "__get__" = some (some (.builtin "getset_descriptor.__get__"))) (htk : PySem.W.takesIn K (.builtin "object.__class__") = some true)
      (hm : PySem.W.mroIn K C (.type "object") = some true) : TyOf K H (.ref a) (.ref C)
theorem isinst_ok {x : V} {u t : Value} (I : Inv X pins σ H s) (rx : RelV x u) (ty : TyOf X.K H x t) (e : PySem.W.kitOne X.K t c = some b) (h : ∀ tk, Q (.bool b) { s with toks := tk }) :
    wpAny (model X.prog X.w) A (call (.builtin "isinstance") [u, c]) Q E s := by
  cases ty with
  | non => cases (show u = Value.none from rx); exact PySem.W.kia_one PySem.W.kitx_none I.kIn True.intro e (fun z => nomatch z) h
  | bl y => cases (show u = Value.bool y from rx); exact PySem.W.kia_one PySem.W.kitx_bool I.kIn True.intro e (fun z => nomatch z) h
  | int i => obtain ⟨t, q⟩ := (show ∃ t, u = Value.int i t from rx); cases q; exact PySem.W.kia_one PySem.W.kitx_int I.kIn True.intro e (fun z => nomatch z) h
  | str y => obtain ⟨t, q⟩ := (show ∃ t, u = Value.str y t from rx); cases q; exact PySem.W.kia_one PySem.W.kitx_str I.kIn True.intro e (fun z => nomatch z) h
  | flt y => obtain ⟨t, q⟩ := (show ∃ t, u = Value.float y t from rx); cases q; exact PySem.W.kia_one PySem.W.kitx_float I.kIn True.intro e (fun z => nomatch z) h
  | @lst a xs ea =>
    cases (show u = Value.ref a from rx)
    obtain ⟨_, _, n, _, h1⟩ := (show ObjOk X.prog X.w H s.heap a (.lst xs) from I.hok a _ ea)
    exact PySem.W.kia_one PySem.W.kitx_list I.kIn ⟨_, h1, rfl⟩ e (fun z => nomatch z) h
  | @frz a ob xs ea =>
    cases (show u = Value.ref a from rx)
    obtain ⟨_, _, _, n, _, h1⟩ := (show ObjOk X.prog X.w H s.heap a (.frz ob (.lst xs)) from I.hok a _ ea)
    exact PySem.W.kia_one PySem.W.kitx_list I.kIn ⟨_, h1, rfl⟩ e (fun z => nomatch z) h
  | @tup a xs ea =>
    cases (show u = Value.ref a from rx)
    obtain ⟨_, _, _, p⟩ := (show ObjOk X.prog X.w H s.heap a (.tup xs) from I.hok a _ ea)
    obtain ⟨o, h1, h2, _⟩ := p
    exact PySem.W.kia_one PySem.W.kitx_tuple I.kIn ⟨o, h1, h2⟩ e (fun z => nomatch z) h
  | @dK a kvs ea =>
    cases (show u = Value.ref a from rx)
    obtain ⟨_, _, vs, _, p⟩ := (show ObjOk X.prog X.w H s.heap a (.dK kvs) from I.hok a _ ea)
    obtain ⟨o, es, ep, h1, h2, _⟩ := p
    exact PySem.W.kia_one PySem.W.kitx_dict I.kIn ⟨o, h1, h2.1⟩ e (fun z => nomatch z) h
  | @dT a kvs ea =>
    cases (show u = Value.ref a from rx)
    obtain ⟨_, _, xs, _, o, es, ep, h1, h2, _⟩ := (show ObjOk X.prog X.w H s.heap a (.dT kvs) from I.hok a _ ea)
    exact PySem.W.kia_one PySem.W.kitx_dict I.kIn ⟨o, h1, h2.1⟩ e (fun z => nomatch z) h
  | @ins a C dx fs ea cl ha hn htk hm =>
    cases (show u = Value.ref a from rx)
    obtain ⟨mA, O, _⟩ := ins_get I.hok ea
    obtain ⟨od, J, _⟩ := O.look
    exact PySem.W.kia_one (PySem.W.kitx_own (cl.get _) cl.hd ha hn htk hm) I.kIn J e (fun z => nomatch z) h
end
end L2
namespace L2
open PySem PySem.Spec PyProof.Rows
structure Room (k : Nat) (A : Around) : Prop where
  hd : A.handled = none
  dp : A.depth + 3 * k + 5 < recursionLimit
  un : A.units + 16 * k + 200 < cLine
theorem Room.mono {j k : Nat} {A : Around} (r : Room k A) (h : j ≤ k) : Room j A := ⟨r.hd, by have := r.dp; (first | with_reducible assumption | lia | omega), by have := r.un; (first | with_reducible assumption | lia | omega)⟩
theorem Room.deeper {k : Nat} {A : Around} (r : Room (k + 1) A) (env : Env) : Room k (A.deeper env) :=
  ⟨r.hd, by have := r.dp; show A.depth + 1 + 3 * k + 5 < _; (first | with_reducible assumption | lia | omega), by have := r.un; show A.units + 3 + 16 * k + 200 < _; (first | with_reducible assumption | lia | omega)⟩
theorem make_depth {A : Around} {C : Addr} {us : List Value} {kw : List (Str × Value)} : (A.under (.builtin "type.__call__" ⟨.ref C :: us, kw⟩)).depth = A.depth + 1 := by
  first | rfl | simp [Around.under, Code.weight, Code.isCreation, Code.isGuard, Code.isCaller, Code.frames, Code.isFrame, guardIds]
theorem make_units {A : Around} {C : Addr} {us : List Value} {kw : List (Str × Value)} : (A.under (.builtin "type.__call__" ⟨.ref C :: us, kw⟩)).units = A.units + 1 := by
  first | rfl | simp [Around.under, Code.cUnits, Code.frames, Code.isFrame]
theorem Room.make {k : Nat} {A : Around} (r : Room (k + 1) A) (C : Addr) (us : List Value) (kw : List (Str × Value)) : Room k (A.under (.builtin "type.__call__" ⟨.ref C :: us, kw⟩)) :=
  ⟨r.hd, by have := r.dp; rw [make_depth]; (first | with_reducible assumption | lia | omega), by have := r.un; rw [make_units]; (first | with_reducible assumption | lia | omega)⟩
theorem Room.depth {k : Nat} {A : Around} (r : Room k A) : A.depth < recursionLimit := by have := r.dp; (first | with_reducible assumption | lia | omega)
theorem Room.units {k : Nat} {A : Around} (r : Room k A) : A.units + 64 < cLine := by have := r.un; (first | with_reducible assumption | lia | omega)
theorem Room.units0 {k : Nat} {A : Around} (r : Room k A) : A.units < cLine := by have := r.un; (first | with_reducible assumption | lia | omega)
noncomputable def tNil : TA := fun _ H Q => Q [] H
noncomputable def tCons (ta : TE) (tr : TA) : TA := fun σ H Q => ta σ H fun x H1 => tr σ H1 fun xs H2 => Q (x :: xs) H2
section
variable {X : Cx} {e : Expr} {es : List Expr} {te : TE} {t : TA} {pos : Pos}
theorem pa_nil : PA X [] tNil := fun _ _ _ _ H Q I h => Calls.spliced_nil ⟨[], H, I, .nil, h⟩
theorem pa_cons (ha : PE X e te) (hr : PA X es t) (hs : starEach (e :: es) X.env = (false, eval e X.env) :: starEach es X.env := by rfl) : PA X (e :: es) (tCons te t) := by
  intro pos pins s σ H Q I h
  rw [hs]
  show wpAny _ _ (spliced ((false, eval e X.env) :: backTo pos (starEach es X.env))) _ _ s
  refine Calls.spliced_cons (thn (ha pins s σ H _ I h) fun u s1 hq_ => EPe hq_ fun x H1 I1 r1 q1 => ?_)
  exact thn (hr pos pins s1 σ H1 _ I1 q1) fun us s2 hq_ => APe hq_ fun xs H2 I2 r2 q2 => ⟨x :: xs, H2, I2, .cons r1 r2, q2⟩
noncomputable def tTup (t : TA) : TE := fun σ H Q => t σ H fun xs H1 => xs.length ≤ sizeLine ∧ ∀ p, H1 p = none → Q (.ref p) (upd H1 p (.tup xs))
noncomputable def tLst (t : TA) : TE := fun σ H Q => t σ H fun xs H1 => xs.length ≤ sizeLine ∧ ∀ p, H1 p = none → Q (.ref p) (upd H1 p (.lst xs))
theorem pe_tup {x1} (h : PA X es t) : PE X (.Tuple es x1 pos) (tTup t) := by
  intro pins s σ H Q I hq
  refine wpAny_Tuple_spliced (thn (h pos pins s σ H _ I hq) fun us s1 hq_ => APe hq_ fun xs H1 I1 r ⟨z, q⟩ => ⟨by rw [← r.length]; exact z, ?_⟩)
  have hf : H1 s1.heap.objs.size = none := I1.hok.fresh (Nat.le_refl _)
  refine ⟨.ref s1.heap.objs.size, upd H1 s1.heap.objs.size (.tup xs), I1.laid (t' := s1.toks) (fun b u e => Heap.get?_push_of_some _ e) (Nat.le_refl _) ?_, rfl, q _ hf⟩
  exact ⟨z, us, r, ⟨_, Heap.get?_push_size _ rfl, rfl, _, rfl⟩⟩
theorem pe_lst (h : PA X es t) : PE X (.List es pos) (tLst t) := by
  intro pins s σ H Q I hq
  refine wpAny_List_spliced (thn (h pos pins s σ H _ I hq) fun us s1 hq_ => APe hq_ fun xs H1 I1 r ⟨z, q⟩ => ⟨by rw [← r.length]; exact z, ?_⟩)
  have hf : H1 s1.heap.objs.size = none := I1.hok.fresh (Nat.le_refl _)
  refine ⟨.ref s1.heap.objs.size, upd H1 s1.heap.objs.size (.lst xs), I1.laid (t' := s1.toks) (fun b u e => Heap.get?_push_of_some _ e) (Nat.le_refl _) ?_, rfl, q _ hf⟩
  exact ⟨z, us, 0, r, Heap.get?_push_size _ rfl⟩
end
noncomputable abbrev Sp := List V → Hp → VK → XK → Prop
noncomputable abbrev CXT := List Env → Hp → Shared → XK → Value → Shared → Prop
structure Env0 (P : Program) (w : World) (K : PySem.W.Frag) (mg : Str → Option Value) (base : Heap) (A : Around) (outer : List Env) (s : Shared) (H : Hp) : Prop where
  frames : A.frames = some outer
  mod : Mod K mg base
  bs : ∀ b o, base.get? b = some o → s.heap.get? b = some o ∧ H b = none
  bsz : base.objs.size ≤ s.heap.objs.size
  funs : s.heap.FunFrames base outer
  frf : ∀ b ∈ frs outer, H b = none
  hok : HOk P w H s.heap
  bare : AllBare s.gens
noncomputable def CE (outer : List Env) (P : Program) (w : World) (H : Hp) (s : Shared) (Q : VK) (u : Value) (s' : Shared) : Prop :=
  ∃ v H', s'.os = s.os ∧ AllBare s'.gens ∧ Un (frs outer) [] H H' s.heap s'.heap ∧ HOk P w H' s'.heap ∧ RelV v u ∧ Q v H'
noncomputable def CR (CX : CXT) (outer : List Env) (P : Program) (w : World) (H : Hp) (s : Shared) (Q : VK) (E : XK) (r : Result) (s' : Shared) : Prop :=
  match r with
  | .ok (.ret u) => CE outer P w H s Q u s'
  | .ok _ => False
  | .error e => CX outer H s E e s'
structure FnOk (P : Program) (w : World) (K : PySem.W.Frag) (mg : Str → Option Value) (base : Heap) (CX : CXT) (k : Nat) (f : Addr) (fd : FuncData) (ps : List Str) (sp : Sp) : Prop where
  len : ∀ vs H Q E, sp vs H Q E → vs.length = ps.length
  run : ∀ (A : Around) (outer : List Env) (s : Shared) (H : Hp) (args : Args) (us : List Value) (vs : List V) (Q : VK) (E : XK), Room k A → Env0 P w K mg base A outer s H → BindsTo s fd args (ps.zip us) → Vals vs us → sp vs H Q E →
    codeAny (model P w) A (.call (.ref f) args) (CR CX outer P w H s Q E) s
theorem Env0.make {P : Program} {w : World} {K : PySem.W.Frag} {mg : Str → Option Value} {base : Heap} {A : Around} {outer : List Env} {s : Shared} {H : Hp} (e : Env0 P w K mg base A outer s H) (C : Addr) (us : List Value) (kw : List (Str × Value)) :
    Env0 P w K mg base (A.under (.builtin "type.__call__" ⟨.ref C :: us, kw⟩)) outer s H := ⟨by first | exact e.frames | (simpa [Around.under, Code.envs, Code.isFrame, pushEnvs] using e.frames), e.mod, e.bs, e.bsz, e.funs, e.frf, e.hok, e.bare⟩
section
variable {X : Cx} {pins : List (Addr × Obj)} {σ : St} {H : Hp} {s s' : Shared}
theorem Inv.env0 (I : Inv X pins σ H s) : Env0 X.prog X.w X.K X.mg X.base X.A X.stack s H :=
  ⟨I.ok.frames, I.ok.mod, I.bs, Nat.le_trans I.ok.bsz I.sz, I.stack, I.stkFree, I.hok, I.bare⟩
theorem Inv.after {Q : VK} {u : Value} (I : Inv X pins σ H s) (h : CE X.stack X.prog X.w H s Q u s') : EP X pins σ Q u s' := by
  obtain ⟨v, H', os, bare, un, hok, r, q⟩ := h
  obtain ⟨hh, g, d, t, os'⟩ := s'
  obtain rfl : os' = s.os := os
  exact ⟨v, H', I.call (h' := hh) (g' := g) (d' := d) (t' := t) (ch := []) un hok bare (fun b z => absurd z (by simp)), r, q⟩
end
noncomputable def tCall (sp : Sp) (dvs : List V) (E : XK) (t : TA) : TE := fun σ H Q => t σ H fun vs H1 => sp (vs ++ dvs) H1 Q E
inductive ItMeth (C : Addr) (m : Str) (x : V) (H1 : Hp) (P : Prop) : Prop where
  | mk (a dx : Addr) (fs : List (Str × V)) (e : x = .ref a) (h : H1 a = some (.ins C dx fs)) (n : fs.lookup m = none) (q : P) : ItMeth C m x H1 P
noncomputable def tMeth (C : Addr) (m : Str) (sp : Sp) (dvs : List V) (E : XK) (ta : TE) (t : TA) : TE := fun σ H Q => ta σ H fun x H1 => ItMeth C m x H1 (t σ H1 fun vs H2 => sp (x :: (vs ++ dvs)) H2 Q E)
noncomputable def Binds (K : PySem.W.Frag) (fd : FuncData) (ps : List Str) (ds : List Value) : Prop :=
  ∀ (s : Shared) (us : List Value), K.In s.heap → (us ++ ds).length = ps.length → BindsTo s fd ⟨us, []⟩ (ps.zip (us ++ ds))
theorem Binds.all {K : PySem.W.Frag} {fd : FuncData} {ps : List Str} (h : ∀ us : List Value, us.length = ps.length → bindArgs fd ⟨us, []⟩ = pure (ps.zip us)) : Binds K fd ps [] := fun s us _ hl => by
  rw [List.append_nil] at hl ⊢
  exact .of_eq (h us hl)
noncomputable def Passes (CX : CXT) (X : Cx) (E : XK) : Prop := ∀ (pins : List (Addr × Obj)) (σ : St) (H : Hp) (s : Shared) (e : Value) (s' : Shared), Inv X pins σ H s → CX X.stack H s E e s' → X.xe e s'
section
variable {X : Cx} {CX : CXT} {k : Nat} {f C : Addr} {fd : FuncData} {ps : List Str} {sp : Sp} {dvs : List V} {ds : List Value} {E : XK} {x m : Str} {p pos apos : Pos} {e o : Expr} {es : List Expr} {ta : TE} {t : TA}
theorem run_fn {pins : List (Addr × Obj)} {σ : St} {H : Hp} {s : Shared} {Q : VK} {us : List Value} {vs : List V} (F : FnOk X.prog X.w X.K X.mg X.base CX k f fd ps sp) (hr : Room k X.A) (hb : Binds X.K fd ps ds) (hd : Vals dvs ds) (hx : Passes CX X E)
    (I : Inv X pins σ H s) (r : Vals vs us) (h : sp (vs ++ dvs) H Q E) : wpAny (model X.prog X.w) X.A (call (.ref f) us) (EP X pins σ Q) X.xe s := by
  have r2 : Vals (vs ++ dvs) (us ++ ds) := r.append hd
  have hl : (us ++ ds).length = ps.length := by rw [← r2.length]; exact F.len _ _ _ _ h
  refine wpAny_call (codeAny_mono (F.run X.A X.stack s H ⟨us, []⟩ (us ++ ds) (vs ++ dvs) Q E hr I.env0 (hb s us I.kIn hl) r2 h) fun r s' hq => ?_)
  cases r with
  | error e => exact hx pins σ H s e s' I hq
  | ok fl =>
    cases fl with
    | ret u => exact I.after hq
    | next => exact False.elim hq
    | brk => exact False.elim hq
    | cont => exact False.elim hq
theorem pe_call (F : FnOk X.prog X.w X.K X.mg X.base CX k f fd ps sp) (hr : Room k X.A) (hg : Gl X x) (hm : X.mg x = some (.ref f)) (hk : PySem.W.keepIn X.K (.ref f) = true) (hb : Binds X.K fd ps ds) (hd : Vals dvs ds) (hx : Passes CX X E)
    (ha : PA X (e :: es) t) (hdb : (x == ("__debug__" : Str)) = false := by decide) (he : starEach (e :: es) X.env = (false, eval e X.env) :: starEach es X.env := by rfl) (hpl : (backTo pos (starEach es X.env)).any (·.1) = false := by rfl) :
    PE X (.Call (.Name x p) (e :: es) [] pos) (tCall sp dvs E t) := by
  intro pins s σ H Q I h
  refine wpAny_Call_Name_kw (ld_glob I hg hm ?_ hdb)
  refine PySem.W.callWith_K (h₀ := X.base) I.ok.mod.kin hk (thn (ha pos pins s σ H _ I h) fun us s1 hq_ => APe hq_ fun vs H1 I1 r q => ⟨I1.kIn, ?_⟩) he hpl
  exact run_fn F hr hb hd hx I1 r q
theorem pe_meth0 {pl : Sem Bool} (he : PE X o ta) (c : Cls X.K C) (hm : Meth X.K C m f) (F : FnOk X.prog X.w X.K X.mg X.base CX k f fd ps sp) (hr : Room k X.A) (hb : Binds X.K fd ps ds) (hd : Vals dvs ds) (hx : Passes CX X E)
    (ht : eval (.Call (.Attribute o m apos) [] [] pos) X.env = (do
      let ov ← eval o X.env
      standAt apos.atName
      let (f, first) ← holding [ov] (getMethod ov m pl)
      callWith pos f first (backTo pos (starEach [] X.env)) (backToKw pos (keywordEach [] X.env))) := by rfl) :
    PE X (.Call (.Attribute o m apos) [] [] pos) (tMeth C m sp dvs E ta tNil) := by
  intro pins s σ H Q I h
  refine PySem.W.methodCall_KW (pl := pl) (thn (he pins s σ H _ I h) fun u s1 hq_ => EPe hq_ fun x H1 I1 rx ⟨a, dx, fs, ex, ea, l, q⟩ => ?_) ht
  subst ex
  obtain rfl : u = Value.ref a := rx
  refine getmeth_ok I1 ea c hm l ?_
  exact PySem.W.callWith_K0 (first := [.ref a]) I1.kIn hm.kp (run_fn (us := [.ref a]) (vs := [.ref a]) F hr hb hd hx I1 (.cons rfl .nil) q)
structure Mk (K : PySem.W.Frag) (C f : Addr) : Prop where
  makes : PySem.W.makesIn K C = true
  init : PySem.W.findIn K (.ref C) "__init__" = some (some (.ref f))
  fn : PySem.W.isFn K (.ref f) = true
  kp : PySem.W.keepIn K (.ref C) = true
theorem run_make {pins : List (Addr × Obj)} {σ : St} {H : Hp} {s : Shared} {Q : VK} {us : List Value} {vs : List V} (M : Mk X.K C f) (F : FnOk X.prog X.w X.K X.mg X.base CX k f fd ps sp) (hr : Room (k + 1) X.A) (hb : Binds X.K fd ps ds) (hd : Vals dvs ds)
    (hx : Passes CX X E) (I : Inv X pins σ H s) (r : Vals vs us)
    (h : ∀ x dx, H x = none → H dx = none → dx ≠ x → sp (.ref x :: (vs ++ dvs)) (upd (upd H dx (.own x)) x (.ins C dx [])) (fun v H2 => v = .non ∧ Q (.ref x) H2) E) :
    wpAny (model X.prog X.w) X.A (call (.ref C) us) (EP X pins σ Q) X.xe s := by
  have hq := h (s.heap.objs.size + 1) s.heap.objs.size (I.hok.fresh (Nat.le_succ _)) (I.hok.fresh (Nat.le_refl _)) (Nat.ne_of_lt (Nat.lt_succ_self _))
  have I2 := Inv.made (C := C) I
  have r2 : Vals (V.ref (s.heap.objs.size + 1) :: (vs ++ dvs)) (Value.ref (s.heap.objs.size + 1) :: (us ++ ds)) := .cons rfl (r.append hd)
  have hl : (Value.ref (s.heap.objs.size + 1) :: us ++ ds).length = ps.length := by
    have e := r2.length
    rw [F.len _ _ _ _ hq] at e
    exact e.symm
  refine wpAny_call (make_map (f := f) I.kIn M.makes M.init (beq_iff_eq.mp M.fn) (codeAny_mono (F.run _ X.stack _ _ ⟨Value.ref (s.heap.objs.size + 1) :: us, []⟩ (Value.ref (s.heap.objs.size + 1) :: (us ++ ds)) _ _ E (hr.make C us [])
    (I2.env0.make C us []) (hb _ (Value.ref (s.heap.objs.size + 1) :: us) I2.kIn hl) r2 hq) fun r s' hq' => ?_))
  cases r with
  | error e => exact hx pins σ _ _ e s' I2 hq'
  | ok fl =>
    cases fl with
    | ret u =>
      obtain ⟨v, H', I3, rv, ev, q3⟩ := I2.after hq'
      subst ev
      exact ⟨rv, ⟨V.ref (s.heap.objs.size + 1), H', I3, rfl, q3⟩⟩
    | next => exact False.elim hq'
    | brk => exact False.elim hq'
    | cont => exact False.elim hq'
end
section
variable {X : Cx} {CX : CXT} {k : Nat} {f C : Addr} {fd : FuncData} {ps ks : List Str} {sp : Sp} {E : XK} {x m : Str} {p pos apos kpos : Pos} {e o : Expr} {es : List Expr} {kws : List Keyword} {te ta : TE} {t tk : TA} {nm : Option Str}
structure KBinds (K : PySem.W.Frag) (fd : FuncData) (ps ks : List Str) (g : List Value → List Value → List Value) (gV : List V → List V → List V) : Prop where
  to : ∀ (s : Shared) (us ws : List Value), K.In s.heap → (g us ws).length = ps.length → BindsTo s fd ⟨us, ks.zip ws⟩ (ps.zip (g us ws))
  rel : ∀ {vs : List V} {us : List Value} {zs : List V} {ws : List Value}, Vals vs us → Vals zs ws → Vals (gV vs zs) (g us ws)
variable {g : List Value → List Value → List Value} {gV : List V → List V → List V}
end
structure FnScope (N P : List Str) (sc : Scope) : Prop where
  kind : sc.kind = .function
  co : sc.isCoroutine = false
  gen : sc.isGenerator = false
  nd : N.Nodup
  pre : N.take P.length = P
  par : ∀ x ∈ P, sc.names.lookup x = some .local ∨ sc.names.lookup x = some .cell
  nofree : ∀ y ∈ sc.names, y.2 ≠ .free
theorem bindL_out {kindOf : Str → Option NameKind} {x : Str} : ∀ {binds : List (Str × Value)} {m : Str → Option Value}, (∀ v, (x, v) ∉ binds) → bindL kindOf binds m x = m x
  | [], _, _ => rfl
  | (n, v) :: r, m, h => by
    unfold bindL
    rw [bindL_out fun w hw => h w (List.mem_cons_of_mem _ hw)]
    split
    · have : x ≠ n := by rintro rfl; exact h v List.mem_cons_self
      simp [this]
    · rfl
theorem bindC_out {kindOf : Str → Option NameKind} {x : Str} : ∀ {binds : List (Str × Value)} {m : Str → Option Value}, (∀ v, (x, v) ∉ binds) → bindC kindOf binds m x = m x
  | [], _, _ => rfl
  | (n, v) :: r, m, h => by
    unfold bindC
    rw [bindC_out fun w hw => h w (List.mem_cons_of_mem _ hw)]
    split
    · rfl
    · have : x ≠ n := by rintro rfl; exact h v List.mem_cons_self
      simp [this]
theorem bindL_get {kindOf : Str → Option NameKind} {x : Str} {v : Value} : ∀ {P : List Str} {vs : List Value} {i : Nat} {m : Str → Option Value}, P.Nodup → P[i]? = some x → vs[i]? = some v → kindOf x = some .local →
    bindL kindOf (P.zip vs) m x = some v
  | [], _, _, _, _, h, _, _ => by simp at h
  | _ :: _, [], _, _, _, _, h, _ => by simp at h
  | p :: P, w :: vs, 0, m, nd, h1, h2, hk => by
    simp at h1 h2; subst h1; subst h2
    show bindL kindOf ((p, w) :: P.zip vs) m p = _
    unfold bindL
    rw [bindL_out fun v hv => (List.nodup_cons.mp nd).1 (List.of_mem_zip hv).1, if_pos hk]
    simp
  | p :: P, w :: vs, i + 1, m, nd, h1, h2, hk => by
    show bindL kindOf ((p, w) :: P.zip vs) m x = _
    unfold bindL
    exact bindL_get (i := i) (List.nodup_cons.mp nd).2 (by simpa using h1) (by simpa using h2) hk
theorem bindC_get {kindOf : Str → Option NameKind} {x : Str} {v : Value} : ∀ {P : List Str} {vs : List Value} {i : Nat} {m : Str → Option Value}, P.Nodup → P[i]? = some x → vs[i]? = some v → kindOf x ≠ some .local →
    bindC kindOf (P.zip vs) m x = some v
  | [], _, _, _, _, h, _, _ => by simp at h
  | _ :: _, [], _, _, _, _, h, _ => by simp at h
  | p :: P, w :: vs, 0, m, nd, h1, h2, hk => by
    simp at h1 h2; subst h1; subst h2
    show bindC kindOf ((p, w) :: P.zip vs) m p = _
    unfold bindC
    rw [bindC_out fun v hv => (List.nodup_cons.mp nd).1 (List.of_mem_zip hv).1, if_neg hk]
    simp
  | p :: P, w :: vs, i + 1, m, nd, h1, h2, hk => by
    show bindC kindOf ((p, w) :: P.zip vs) m x = _
    unfold bindC
    exact bindC_get (i := i) (List.nodup_cons.mp nd).2 (by simpa using h1) (by simpa using h2) hk
noncomputable def start (N : List Str) (vs : List V) : St := vs.map some ++ List.replicate (N.length - vs.length) none
noncomputable def cxOf (CX : CXT) (P : Program) (w : World) (K : PySem.W.Frag) (mg : Str → Option Value) (base : Heap) (N : List Str) (qual : Str) (scope : Scope) (f : Addr) (cd : Value) (A : Around) (outer : List Env) (s : Shared) (H : Hp) (E : XK) : Cx where
  prog := P
  w := w
  K := K
  mg := mg
  base := base
  A := A.deeper (envOfC qual scope s.heap.objs.size f cd)
  N := N
  s₀ := s
  H₀ := H
  env := envOfC qual scope s.heap.objs.size f cd
  outer := outer
  stack := envOfC qual scope s.heap.objs.size f cd :: outer
  ex := []
  calm := true
  fn := fun _ => true
  pn := []
  xe := fun e s' => wpAny (model P w) (A.deeper (envOfC qual scope s.heap.objs.size f cd)) (leaving (envOfC qual scope s.heap.objs.size f cd) e) (fun _ s'' => CX outer H s E e s'') (fun e' s'' => CX outer H s E e' s'') s'
theorem cell_has {sc : Scope} {n : Nat} {x : Str} (h : sc.names.lookup x = some .cell) : ∃ c, (cellsFrom n sc.names []).lookup x = some c := by
  have q := PySem.W.cellsFrom_some sc.names n [] (.inl h)
  exact Option.isSome_iff_exists.mp q
theorem inv_start {CX : CXT} {P : Program} {w : World} {K : PySem.W.Frag} {mg : Str → Option Value} {base : Heap} {N ps : List Str} {qual : Str} {scope : Scope} {f : Addr} {cd : Value} {A : Around} {outer : List Env} {s s1 : Shared} {H : Hp} {E : XK} {us : List Value} {vs : List V}
    (S : FnScope N ps scope) (hd : A.handled = none) (e0 : Env0 P w K mg base A outer s H) (hl : vs.length = ps.length) (r : Vals vs us)
    (x : InCallC s s.heap.objs.size (bindL (envOfC qual scope s.heap.objs.size f cd).kindOf (ps.zip us) fun _ => none) (cellsFrom (s.heap.objs.size + 1) scope.names []) (bindC (envOfC qual scope s.heap.objs.size f cd).kindOf (ps.zip us) fun _ => none) s1) :
    Inv (cxOf CX P w K mg base N qual scope f cd A outer s H E) [] (start N vs) H s1 := by
  have hpl : ps.length ≤ N.length := by have := congrArg List.length S.pre; rw [List.length_take] at this; (first | with_reducible assumption | lia | omega)
  obtain ⟨h1, tk, rfl, hk⟩ := x.done
  have noA : ∀ b : Addr, b ∉ (cxOf CX P w K mg base N qual scope f cd A outer s H E).ex := fun b z => absurd (show b ∈ ([] : List Addr) from z) (by simp)
  refine ⟨⟨e0.mod, S.kind, rfl, rfl, Nat.le_refl _, fun y z c h1 h2 => ?_, fun y hy => ?_, fun y c _ h => ?_, fun _ => hd, Around.frames_deeper e0.frames, .inr ⟨rfl, rfl⟩, fun b z => absurd z (noA b), e0.bs, e0.bsz, fun b _ _ => noA b, fun b z => absurd z (noA b), e0.funs, e0.frf⟩,
    rfl, e0.bare, Un.kept hk, ⟨_, x.toInCall.ns, fun i y v h1 h2 h3 => ?_⟩, fun y c h => ⟨_, x.cell y c h⟩, e0.hok.fresh (Nat.le_refl _), fun y c h => ?_, fun p hp => absurd (show p ∈ ([] : List (Addr × Obj)) from hp) (by simp), e0.hok.kept hk, ?_⟩
  · exact name_of_addr x.apart (PySem.mem_of_lookup h1) (PySem.mem_of_lookup h2)
  · have hy : scope.names.lookup y = some .cell ∨ scope.names.lookup y = some .free := hy
    rcases hy with hy | hy
    · exact cell_has hy
    · exact absurd rfl (S.nofree _ (PySem.mem_of_lookup hy))
  · exact Nat.le_of_lt (x.above y c (PySem.mem_of_lookup h))
  · have hi : i < vs.length := by
      unfold start at h2
      by_cases hi : i < vs.length
      · exact hi
      · rw [List.getElem?_append_right (by simpa using hi)] at h2
        rw [List.getElem?_replicate] at h2
        split at h2 <;> cases h2
    have ha : vs[i]? = some v := by
      unfold start at h2
      rw [List.getElem?_append_left (by simpa using hi), List.getElem?_map] at h2
      cases e : vs[i]? with
      | none => rw [e] at h2; cases h2
      | some a => rw [e] at h2; cases h2; rfl
    obtain ⟨u, hu, rv⟩ := r.get ha
    have hp : ps[i]? = some y := by
      rw [← S.pre, List.getElem?_take_of_lt (by (first | with_reducible assumption | lia | omega))]; exact h1
    have ndP : ps.Nodup := by rw [← S.pre]; exact S.nd.sublist (List.take_sublist _ _)
    refine ⟨u, rv, ?_⟩
    rcases S.par y (List.mem_of_getElem? hp) with k | k
    · exact .inl ⟨k, bindL_get ndP hp hu k⟩
    · obtain ⟨c, e⟩ := cell_has (n := s.heap.objs.size + 1) k
      refine .inr ⟨.inl k, c, e, ?_⟩
      have q := x.cell y c e
      rw [bindC_get ndP hp hu (by show scope.names.lookup y ≠ _; rw [k]; decide)] at q
      exact q
  · exact e0.hok.fresh (Nat.le_of_lt (x.above y c (PySem.mem_of_lookup h)))
  · unfold start
    show _ = N.length
    rw [List.length_append, List.length_map, List.length_replicate]
    (first | with_reducible assumption | lia | omega)
theorem fn_of {CX : CXT} {P : Program} {w : World} {K : PySem.W.Frag} {mg : Str → Option Value} {base : Heap} {k : Nat} {f : Addr} {name qual : Str} {params : Arguments} {body : List Stmt} {scope : Scope} {dV kV doc pm cdv ct oc : Value} {an od : Option Addr}
    {osl : Array (Option Value)} {N ps : List Str} {sp : Sp} (lk : K.lookup f = some ⟨oc, od, .func (PySem.W.fnOf name qual params body scope dV kV doc pm an cdv ct), osl⟩) (hcd : PySem.W.codeIn K cdv qual = true) (S : FnScope N ps scope)
    (len : ∀ vs H Q E, sp vs H Q E → vs.length = ps.length)
    (hbody : ∀ (A : Around) (outer : List Env) (s : Shared) (H : Hp) (vs : List V) (Q : VK) (E : XK), Room k (A.deeper (envOfC qual scope s.heap.objs.size f cdv)) → sp vs H Q E →
      ∃ t, PSs (cxOf CX P w K mg base N qual scope f cdv A outer s H E) body t ∧ t { nx := fun _ H' => Q .non H', rt := Q } (start N vs) H) :
    FnOk P w K mg base CX (k + 1) f (PySem.W.fnOf name qual params body scope dV kV doc pm an cdv ct) ps sp := by
  refine ⟨len, fun A outer s H args us vs Q E hr e0 hb r hsp => ?_⟩
  have hl := len _ _ _ _ hsp
  have KX : K.In s.heap := e0.mod.kin.keeps fun b o e => (e0.bs b o e).1
  have lim : s.heap.NoLimit := e0.mod.nolimit.keeps fun b o e => (e0.bs b o e).1
  have hkind : ∀ y ∈ ps.zip us, scope.names.lookup y.1 = some .local ∨ (scope.names.lookup y.1 = some .cell ∧ ((cellsFrom (s.heap.objs.size + 1) scope.names []).lookup y.1).isSome = true) := fun ⟨n, v⟩ hy => by
    rcases S.par n (List.of_mem_zip hy).1 with q | q
    · exact .inl q
    · exact .inr ⟨q, PySem.W.cellsFrom_some _ _ _ (.inl q)⟩
  refine codeAny_call_function hr.depth (KX _ _ lk) rfl S.co S.gen rfl (PySem.W.codeRec_of KX hcd) (hb _ _ _ _ ?_)
  refine wpAny_newFunctionEnv_cells S.kind hkind fun env he s1 x => ?_
  subst he
  refine ⟨lim.keeps x.toInCall.keep, codeAny_func ?_⟩
  obtain ⟨t, ht, hq⟩ := hbody A outer s H vs Q E (hr.deeper _) hsp
  have I : Inv (cxOf CX P w K mg base N qual scope f cdv A outer s H E) [] (start N vs) H s1 := inv_start S hr.hd e0 hl r x
  refine wpAny_mono (ht [] s1 (start N vs) H _ I hq) (fun fl s' hs => ?_) fun e s' hs => hs
  have fin : ∀ {σ' : St} {H' : Hp} {v : V} {u : Value}, Inv (cxOf CX P w K mg base N qual scope f cdv A outer s H E) [] σ' H' s' → RelV v u → Q v H' → CE outer P w H s Q u s' :=
    fun {σ' H' v u} J rv q => ⟨v, H', J.os, J.bare, J.base, J.hok, rv, q⟩
  cases fl with
  | ret u =>
    obtain ⟨v, σ', H', J, rv, q⟩ := hs
    exact fin J rv q
  | next =>
    obtain ⟨σ', H', J, q⟩ := hs
    exact fin (v := V.non) (u := Value.none) J rfl q
  | brk =>
    obtain ⟨_, _, _, q⟩ := hs
    exact False.elim q
  | cont =>
    obtain ⟨_, _, _, q⟩ := hs
    exact False.elim q
end L2
namespace L2
open PySem PySem.Spec PyProof.Rows
section
variable {X : Cx} {x : Str} {p pos : Pos} {e : Expr} {es : List Expr} {t : TA} {id T : String} {r : List V → Hp → VK → Prop}
noncomputable def tCB (r : List V → Hp → VK → Prop) (t : TA) : TE := fun σ H Q => t σ H fun vs H1 => r vs H1 Q
theorem pe_callB (hc : CallR X (.builtin id) r) (hg : Gl X x) (hm : X.mg x = none) (hv : bootBuiltins x = some (.builtin id)) (ha : PA X (e :: es) t) (hn : x ≠ "__name__" := by decide) (hdb : (x == ("__debug__" : Str)) = false := by decide)
    (he : starEach (e :: es) X.env = (false, eval e X.env) :: starEach es X.env := by rfl) (hpl : (backTo pos (starEach es X.env)).any (·.1) = false := by rfl) : PE X (.Call (.Name x p) (e :: es) [] pos) (tCB r t) := by
  intro pins s σ H Q I h
  refine wpAny_Call_Name_kw (ld_blt I hg hm hv ?_ hn hdb)
  exact PyProof.Rows.callWith_builtin1 (thn (ha pos pins s σ H _ I h) fun us s1 hq_ => APe hq_ fun vs H1 I1 r1 q1 => hc pins s1 σ H1 vs us Q I1 r1 q1) he hpl
theorem pe_callTy (hc : CallR X (.type T) r) (hg : Gl X x) (hm : X.mg x = none) (hv : bootBuiltins x = some (.type T)) (ha : PA X (e :: es) t) (hn : x ≠ "__name__" := by decide) (hdb : (x == ("__debug__" : Str)) = false := by decide)
    (he : starEach (e :: es) X.env = (false, eval e X.env) :: starEach es X.env := by rfl) (hpl : (backTo pos (starEach es X.env)).any (·.1) = false := by rfl) : PE X (.Call (.Name x p) (e :: es) [] pos) (tCB r t) := by
  intro pins s σ H Q I h
  refine wpAny_Call_Name_kw (ld_blt I hg hm hv ?_ hn hdb)
  exact PyProof.Rows.callWith_type1 (thn (ha pos pins s σ H _ I h) fun us s1 hq_ => APe hq_ fun vs H1 I1 r1 q1 => hc pins s1 σ H1 vs us Q I1 r1 q1) he hpl
end
end L2
namespace HT
open PySem PyProof.Rows
noncomputable def lexLt : List Int → List Int → Bool
  | [], [] => false
  | [], _ :: _ => true
  | _ :: _, [] => false
  | x :: xs, y :: ys => if x = y then lexLt xs ys else decide (x < y)
theorem lexLt_cons (x y : Int) (xs ys : List Int) : lexLt (x :: xs) (y :: ys) = if x = y then lexLt xs ys else decide (x < y) := rfl
theorem eqAt_int (A : Around) (s : Shared) (a : Int) (t : Tok) (c : Int) (u : Tok) : ∃ e, SeqAt.EqAt A s (.int a t) (.int c u) e ∧ (e = true ↔ a = c) :=
  ⟨(a == c), SeqAt.EqAt.int_int a t c u, by simp⟩
theorem rcLt_int (A : Around) (s : Shared) (a : Int) (t : Tok) (c : Int) (u : Tok) (prog : Program) (w : World) (E : Value → Shared → Prop) (Q : Value → Shared → Prop) (h : Q (.bool (decide (a < c))) s) :
    wpAny (model prog w) A (richCompare .Lt (.int a t) (.int c u)) Q E s :=
  (PyProof.Rows.lt_int h : wpAny (model prog w) A (compareOp .Lt (.int a t) (.int c u)) Q E s)
section
open PySem.SeqAt
open PySem.AutoSeq1 (wpAny_loadPart')
open PySem.MeetsSeq PySem.MeetsSeq2 PySem.MeetsSeq3
end
section
variable {prog : Program} {w : World} {A : Around} {E : Value → Shared → Prop} {s : Shared}
noncomputable def sIx (n d : Nat) : Option Int → Nat
  | none => d
  | some v => if v < 0 then (v + (n : Int)).toNat else min v.toNat n
theorem sIx_none (n d : Nat) : sIx n d none = d := rfl
theorem sIx_nat (n d k : Nat) : sIx n d (some (k : Int)) = min k n := by
  show (if (k : Int) < 0 then ((k : Int) + (n : Int)).toNat else min (k : Int).toNat n) = min k n
  rw [if_neg (by (first | with_reducible assumption | lia | omega)), Int.toNat_natCast]
end
end HT
namespace L2
open PySem PySem.Spec PyProof.Rows
noncomputable abbrev TO := St → Hp → (Option Int → Hp → Prop) → Prop
noncomputable def PO (X : Cx) (e : Option Expr) (t : TO) : Prop :=
  ∀ (pins : List (Addr × Obj)) (s : Shared) (σ : St) (H : Hp) (Q : Option Int → Hp → Prop), Inv X pins σ H s → t σ H Q →
    wpAny (model X.prog X.w) X.A (evalPart e X.env) (fun u s' => ∃ o H', Inv X pins σ H' s' ∧ IsPart u o ∧ Q o H') X.xe s
noncomputable def tNoPart : TO := fun _ H Q => Q none H
noncomputable def tPart (t : TE) : TO := fun σ H Q => t σ H fun x H1 => ∃ i, x = .int i ∧ Q (some i) H1
theorem intsAre_of {ns : List Int} : ∀ {us : List Value}, Vals (ns.map V.int) us → IntsAre us ns := by
  induction ns with
  | nil => intro us r; rw [List.map_nil] at r; cases r; exact .nil
  | cons n ns ih =>
    intro us r
    rw [List.map_cons] at r
    cases r with
    | cons r1 r2 =>
      obtain ⟨t, e⟩ := r1
      subst e
      exact .cons n t (ih r2)
section
variable {X : Cx} {e : Expr} {te : TE} {lo hi : Option Expr} {tl th : TO} {pos p2 : Pos}
theorem po_none : PO X none tNoPart := by
  intro pins s σ H Q I h
  rw [evalPart_none]
  exact wpAny_pure ⟨none, H, I, .none, h⟩
theorem po_some (h : PE X e te) : PO X (some e) (tPart te) := by
  intro pins s σ H Q I hw
  rw [evalPart_some]
  refine thn (h pins s σ H _ I hw) fun u s1 hq_ => EPe hq_ fun x H1 I1 r1 q1 => ?_
  obtain ⟨i, rfl, q⟩ := q1
  obtain ⟨t, rfl⟩ := r1
  exact ⟨some i, H1, I1, .int i t, q⟩
noncomputable def SlR (X : Cx) (r : V → Option Int → Option Int → Hp → VK → Prop) : Prop :=
  ∀ (pins : List (Addr × Obj)) (s : Shared) (σ : St) (H : Hp) (x : V) (v vl vu : Value) (lo hi : Option Int) (sl : Addr) (Q : VK), Inv X pins σ H s → RelV x v → s.heap.IsSliceOf sl vl vu .none → IsPart vl lo → IsPart vu hi → r x lo hi H Q →
    ∃ T id, typeLookup (.type T) "__getitem__" = pure (some (.builtin id)) ∧ s.TypeIs v T ∧ wpAny (model X.prog X.w) X.A (getItem v (.ref sl)) (EP X pins σ Q) X.xe s
noncomputable def tSl (r : V → Option Int → Option Int → Hp → VK → Prop) (te : TE) (tl th : TO) : TE := fun σ H Q => te σ H fun x H1 => tl σ H1 fun l H2 => th σ H2 fun u H3 => r x l u H3 Q
theorem pe_slice {r : V → Option Int → Option Int → Hp → VK → Prop} (hr : SlR X r) (he : PE X e te) (hl : PO X lo tl) (hu : PO X hi th) : PE X (.Subscript e (.Slice lo hi none p2) pos) (tSl r te tl th) := by
  intro pins s σ H Q I h
  refine Subscript_ (thn (he pins s σ H _ I h) fun v s1 hq_ => EPe hq_ fun x H1 I1 r1 q1 => ?_)
  refine wpAny_Slice (thn (hl pins s1 σ H1 _ I1 q1) fun vl s2 ⟨l, H2, I2, pl, q2⟩ => thn (hu pins s2 σ H2 _ I2 q2) fun vu s3 ⟨u, H3, I3, pu, q3⟩ => ?_)
  rw [evalPart_none]
  refine wpAny_pure ?_
  have I4 : Inv X pins σ H3 { s3 with heap := s3.heap.push { cls := .type "slice", data := .fields #[vl, vu, .none] } } := I3.kept (t' := s3.toks) fun b ob q => Heap.get?_push_of_some _ q
  obtain ⟨T, id, hT, ht, hg⟩ := hr pins { s3 with heap := s3.heap.push { cls := .type "slice", data := .fields #[vl, vu, .none] } } σ H3 x v vl vu l u s3.heap.objs.size Q I4 r1 (Heap.IsSliceOf.new ..) pl pu q3
  show wpAny (model X.prog X.w) X.A (subscriptTail e (.Slice lo hi none p2) v (.ref s3.heap.objs.size)) (EP X pins σ Q) X.xe { s3 with heap := s3.heap.push { cls := .type "slice", data := .fields #[vl, vu, .none] } }
  exact tail_any (ops := [.ref s3.heap.objs.size, v]) ht hT hg (by with_unfolding_all rfl)
noncomputable def cutV (xs : List V) (lo hi : Option Int) : List V := (xs.drop (HT.sIx xs.length 0 lo)).take (HT.sIx xs.length xs.length hi - HT.sIx xs.length 0 lo)
theorem cutV_length (xs : List V) (lo hi : Option Int) : (cutV xs lo hi).length ≤ xs.length := by
  unfold cutV
  rw [List.length_take, List.length_drop]
  (first | with_reducible assumption | lia | omega)
end
end L2
namespace L2
open PySem PySem.Spec PyProof.Rows
noncomputable def ixN (n : Nat) (i : Int) : Option Nat := if 0 ≤ i then (if i < n then some i.toNat else none) else if -(n : Int) ≤ i then some (i + n).toNat else none
noncomputable def atI {α : Type} (xs : List α) (i : Int) : Option α := (ixN xs.length i).bind fun j => xs[j]?
theorem ixN_seq {n : Nat} {i : Int} {j : Nat} (h : ixN n i = some j) : seqIndex? i n = some j ∧ j < n ∧ -(n : Int) ≤ i ∧ i < n := by
  unfold ixN at h
  by_cases h0 : 0 ≤ i
  · rw [if_pos h0] at h
    by_cases h1 : i < n
    · rw [if_pos h1] at h
      have e : i.toNat = j := Option.some.inj h
      exact ⟨by rw [seqIndex_of h0 h1, e], by (first | with_reducible assumption | lia | omega), by (first | with_reducible assumption | lia | omega), h1⟩
    · rw [if_neg h1] at h; cases h
  · rw [if_neg h0] at h
    by_cases h1 : -(n : Int) ≤ i
    · rw [if_pos h1] at h
      have e : (i + n).toNat = j := Option.some.inj h
      exact ⟨by rw [seqIndex_neg (by (first | with_reducible assumption | lia | omega)) h1, e], by (first | with_reducible assumption | lia | omega), h1, by (first | with_reducible assumption | lia | omega)⟩
    · rw [if_neg h1] at h; cases h
theorem atI_get {α : Type} {xs : List α} {i : Int} {v : α} (h : atI xs i = some v) : ∃ j, seqIndex? i xs.length = some j ∧ xs[j]? = some v ∧ j < xs.length ∧ -(xs.length : Int) ≤ i ∧ i < xs.length := by
  unfold atI at h
  cases e : ixN xs.length i with
  | none => rw [e] at h; cases h
  | some j =>
    rw [e] at h
    obtain ⟨h1, h2, h3, h4⟩ := ixN_seq e
    exact ⟨j, h1, h, h2, h3, h4⟩
theorem atI_nat {α : Type} {xs : List α} {j : Nat} {v : α} (h : xs[j]? = some v) : atI xs (j : Int) = some v := by
  have hj : j < xs.length := (List.getElem?_eq_some_iff.mp h).1
  have e : ixN xs.length (j : Int) = some j := by
    unfold ixN
    rw [if_pos (by (first | with_reducible assumption | lia | omega)), if_pos (by (first | with_reducible assumption | lia | omega))]; simp
  unfold atI; rw [e]; exact h
noncomputable def PlainIx (b : Expr) : Prop := ∀ o i, subscripted b false o i = operate [o, i] (getItem o i)
noncomputable def IxR (X : Cx) (r : R2) : Prop :=
  ∀ (value slice : Expr) (pins : List (Addr × Obj)) (s : Shared) (σ : St) (H : Hp) (x y : V) (v u : Value) (Q : VK), Inv X pins σ H s → RelV x v → RelV y u → r x y H Q →
    subscripted slice false v u = operate [v, u] (getItem v u) → wpAny (model X.prog X.w) X.A (subscriptTail value slice v u) (EP X pins σ Q) X.xe s
noncomputable def MtR (X : Cx) (id : String) (r : V → List V → Hp → VK → Prop) : Prop :=
  ∀ (pins : List (Addr × Obj)) (s : Shared) (σ : St) (H : Hp) (x : V) (xs : List V) (v : Value) (us : List Value) (Q : VK), Inv X pins σ H s → RelV x v → Vals xs us → r x xs H Q →
    wpAny (model X.prog X.w) X.A (call (.builtin id) (v :: us)) (EP X pins σ Q) X.xe s
section
variable {X : Cx} {a b : Expr} {ta tb : TE} {pos : Pos}
theorem pe_ix {r : R2} (hr : IxR X r) (ha : PE X a ta) (hb : PE X b tb) (hs : PlainIx b) : PE X (.Subscript a b pos) (tOp r ta tb) := by
  intro pins s σ H Q I h
  exact Subscript_ (binT ha hb I h fun v u s2 x y H2 I2 rx ry q => hr a b pins s2 σ H2 x y v u Q I2 rx ry q (hs _ _))
inductive RIxLI (K : PySem.W.Frag) (x y : V) (H : Hp) (Q : VK) : Prop where
  | mk (p : Addr) (xs : List V) (i : Int) (v : V) (e1 : x = .ref p) (e2 : y = .int i) (s : SqL K H p xs) (a : atI xs i = some v) (q : Q v H) : RIxLI K x y H Q
noncomputable def rIxL (K : PySem.W.Frag) : R2 := fun x y H Q => RIxLI K x y H Q
inductive RIxTI (K : PySem.W.Frag) (x y : V) (H : Hp) (Q : VK) : Prop where
  | mk (p : Addr) (xs : List V) (i : Int) (v : V) (e1 : x = .ref p) (e2 : y = .int i) (s : SqT K H p xs) (a : atI xs i = some v) (q : Q v H) : RIxTI K x y H Q
noncomputable def rIxT (K : PySem.W.Frag) : R2 := fun x y H Q => RIxTI K x y H Q
theorem ix_list : IxR X (rIxL X.K) := by
  intro value slice pins s σ H x y v u Q I rx ry h hs
  obtain ⟨p, xs, i, z, rfl, rfl, hq, he, q⟩ := h
  cases rx
  obtain ⟨t, rfl⟩ := ry
  obtain ⟨its, r, pl, hz⟩ := I.list hq
  obtain ⟨j, h1, h2, h3, h4, h5⟩ := atI_get he
  obtain ⟨w, ew, rw'⟩ := r.get h2
  have hl := r.length
  have hn := line63
  have fin : EP X pins σ Q w s := ⟨z, H, I, rw', q⟩
  by_cases h0 : 0 ≤ i
  · have hj : i.toNat = j := by
      rw [seqIndex_of h0 h5] at h1
      exact Option.some.inj h1
    exact item_listR pl.isList h0 (by (first | with_reducible assumption | lia | omega)) (by rw [hj]; simpa using ew) fin hs
  · have hj : (i + (its.toArray.size : Int)).toNat = j := by
      rw [seqIndex_neg (by (first | with_reducible assumption | lia | omega)) h4] at h1
      rw [List.size_toArray, ← hl]
      exact Option.some.inj h1
    exact subscriptTail_builtinR (x := w) pl.isList.typeIs slot_list_getitem.lookup
      (wpAny_getItem_list_neg (Q := fun r s' => r = w ∧ EP X pins σ Q r s') pl.isList (by (first | with_reducible assumption | lia | omega)) (by rw [List.size_toArray] <;> (first | with_reducible assumption | lia | omega)) (by (first | with_reducible assumption | lia | omega)) (by rw [hj]; simpa using ew) ⟨rfl, fin⟩) hs
theorem ix_tup : IxR X (rIxT X.K) := by
  intro value slice pins s σ H x y v u Q I rx ry h hs
  obtain ⟨p, xs, i, z, rfl, rfl, hq, he, q⟩ := h
  cases rx
  obtain ⟨t, rfl⟩ := ry
  obtain ⟨its, r, pl, hz⟩ := I.tuple hq
  obtain ⟨j, h1, h2, h3, h4, h5⟩ := atI_get he
  obtain ⟨w, ew, rw'⟩ := r.get h2
  have hl := r.length
  have hn := line63
  have fin : EP X pins σ Q w s := ⟨z, H, I, rw', q⟩
  exact subscriptTail_builtinR (x := w) pl.typeIs slot_tuple_getitem.lookup
    (getItem_tuple (j := j) (Q := fun r s' => r = w ∧ EP X pins σ Q r s') pl (by (first | with_reducible assumption | lia | omega)) (by (first | with_reducible assumption | lia | omega)) (by rw [List.size_toArray, ← hl]; exact h1) (by simpa using ew) ⟨rfl, fin⟩) hs
theorem mapSeq_set (its : List Value) (n j : Nat) (u : Value) : Obj.mapSeq (·.setIfInBounds j u) { cls := .type "list", data := .seq its.toArray n } = { cls := .type "list", data := .seq (its.set j u).toArray n } := by
  simp [Obj.mapSeq]
theorem Inv.lst {pins : List (Addr × Obj)} {σ : St} {H : Hp} {s : Shared} {p : Addr} {xs : List V} (I : Inv X pins σ H s) (h : H p = some (.lst xs)) :
    ∃ (its : List Value) (n : Nat), Vals xs its ∧ s.heap.get? p = some { cls := .type "list", data := .seq its.toArray n } ∧ xs.length ≤ sizeLine := by
  obtain ⟨z, its, n, r, e⟩ := I.hok p _ h
  exact ⟨its, n, r, e, z⟩
theorem Inv.lstUpd {pins : List (Addr × Obj)} {σ : St} {H : Hp} {s : Shared} {p : Addr} {xs ys : List V} {its its' : List Value} {n n' : Nat} {f : Obj → Obj} (I : Inv X pins σ H s) (h : H p = some (.lst xs))
    (ho : s.heap.get? p = some { cls := .type "list", data := .seq its.toArray n }) (hf : f { cls := .type "list", data := .seq its.toArray n } = { cls := .type "list", data := .seq its'.toArray n' }) (r : Vals ys its') (hz : ys.length ≤ sizeLine) (t : Nat) :
    Inv X pins σ (upd H p (.lst ys)) { s with heap := s.heap.update p f, toks := t } := by
  have e : (s.heap.update p f).get? p = some { cls := .type "list", data := .seq its'.toArray n' } := by
    rw [Heap.get?_update_self f ho (by rw [hf] <;> rfl), hf]
  refine I.write (x := p) (e := p) (by rw [h]; trivial) (.inl rfl) (fun b u hb q => (Heap.get?_update_other _ _ (Ne.symm hb)).trans q) ⟨_, e⟩ ?_
  exact ⟨hz, its', n', r, e⟩
noncomputable def rSetL : V → V → V → Hp → (Hp → Prop) → Prop := fun o i v H Q => ∃ p xs k j, o = .ref p ∧ i = .int k ∧ H p = some (.lst xs) ∧ ixN xs.length k = some j ∧ Q (upd H p (.lst (xs.set j v)))
theorem set_list : PSet X rSetL := by
  intro pins s σ H o i v ov iv u Q I ro ri rv h
  obtain ⟨p, xs, k, j, rfl, rfl, hp, hj, q⟩ := h
  cases ro
  obtain ⟨t, rfl⟩ := ri
  obtain ⟨its, n, r, ho, hz⟩ := I.lst hp
  obtain ⟨h1, h2, h3, h4⟩ := ixN_seq hj
  have hl := r.length
  have hn := line63
  have I' : Inv X pins σ (upd H p (.lst (xs.set j v))) { s with heap := s.heap.update p (Obj.mapSeq (·.setIfInBounds j u)) } :=
    I.lstUpd hp ho (mapSeq_set its n j u) (r.set rv j) (by rw [List.length_set]; exact hz) s.toks
  by_cases h0 : 0 ≤ k
  · have hk : k.toNat = j := by
      rw [seqIndex_of h0 h4] at h1
      exact Option.some.inj h1
    exact PySem.W.ki_setAt ho h0 (by (first | with_reducible assumption | lia | omega)) (by rw [List.size_toArray, ← hl]; exact h4) (by rw [hk]; exact ⟨_, I', q⟩)
  · have hk : (k + (its.toArray.size : Int)).toNat = j := by
      rw [seqIndex_neg (by (first | with_reducible assumption | lia | omega)) h3] at h1
      rw [List.size_toArray, ← hl]
      exact Option.some.inj h1
    exact PySem.W.ki_setBack ho (by (first | with_reducible assumption | lia | omega)) (by rw [List.size_toArray, ← hl]; exact h3) (by (first | with_reducible assumption | lia | omega)) (by rw [hk]; exact ⟨_, I', q⟩)
theorem slice_bounds (lo hi : Option Int) (n : Nat) : (sliceBounds lo hi none n).1 = ((HT.sIx n 0 lo : Nat) : Int) ∧ (sliceBounds lo hi none n).2.1 = ((HT.sIx n n hi : Nat) : Int) ∧ (sliceBounds lo hi none n).2.2 = 1 := by
  refine ⟨?_, ?_, rfl⟩
  · cases lo with
    | none => simp [sliceBounds, HT.sIx]
    | some i =>
      simp only [sliceBounds, HT.sIx, Option.getD_none, show (1 : Int) > 0 by decide, if_true]
      by_cases h : i < 0
      · simp only [h, if_true] <;> (first | with_reducible assumption | lia | omega)
      · simp only [h, if_false] <;> (first | with_reducible assumption | lia | omega)
  · cases hi with
    | none => simp [sliceBounds, HT.sIx]
    | some i =>
      simp only [sliceBounds, HT.sIx, Option.getD_none, show (1 : Int) > 0 by decide, if_true]
      by_cases h : i < 0
      · simp only [h, if_true] <;> (first | with_reducible assumption | lia | omega)
      · simp only [h, if_false] <;> (first | with_reducible assumption | lia | omega)
theorem slicePick_cut (its : List Value) (lo hi : Option Int) : slicePick its.toArray lo hi none = ((its.drop (HT.sIx its.length 0 lo)).take (HT.sIx its.length its.length hi - HT.sIx its.length 0 lo)).toArray := by
  obtain ⟨h1, h2, h3⟩ := slice_bounds lo hi its.toArray.size
  unfold slicePick
  rw [h1, h2, h3]
  simp only [sliceRange_one, pick_run, List.size_toArray] <;> rfl
inductive IrSlL (K : PySem.W.Frag) (x : V) (lo : Option Int) (hi : Option Int) (H : Hp) (Q : VK) : Prop where
  | mk (a : Addr) (xs : List V) (h0 : x = .ref a) (h1 : SqL K H a xs) (h2 : ∀ p, H p = none → Q (.ref p) (upd H p (.lst (cutV xs lo hi)))) : IrSlL K x lo hi H Q
noncomputable def rSlL (K : PySem.W.Frag) : V → Option Int → Option Int → Hp → VK → Prop := fun x lo hi H Q => IrSlL K x lo hi H Q
theorem sl_list : SlR X (rSlL X.K) := by
  intro pins s σ H x v vl vu lo hi sl Q I rx hs pl pu h
  obtain ⟨a, xs, rfl, hx, q⟩ := h
  cases rx
  obtain ⟨its, r, ht, hz⟩ := I.list hx
  have hlen := r.length
  refine ⟨"list", _, slot_list_getitem.lookup, ht.isList.typeIs, ?_⟩
  refine wpAny_getItem_list_slice ht.isList hs pl pu .none (by simp) ?_ (by rw [List.size_toArray] <;> (first | with_reducible assumption | lia | omega))
  rw [slicePick_cut, ← hlen]
  refine ⟨.ref s.heap.objs.size, _, I.laid (t' := s.toks) (o := .lst (cutV xs lo hi)) (fun b ob q => Heap.get?_push_of_some _ q) (Nat.le_refl _) ?_, rfl, q _ (I.hok.fresh (Nat.le_refl _))⟩
  exact ⟨Nat.le_trans (cutV_length xs lo hi) hz, _, 0, (r.drop (HT.sIx xs.length 0 lo)).take (HT.sIx xs.length xs.length hi - HT.sIx xs.length 0 lo), Heap.get?_push_size _ rfl⟩
noncomputable def flatV : V → Bool
  | .non => true
  | .bl _ => true
  | .int _ => true
  | .str _ => true
  | _ => false
noncomputable def eqV : V → V → Bool
  | .non, .non => true
  | .bl a, .bl b => a == b
  | .bl a, .int b => (if a then 1 else 0) == b
  | .int a, .bl b => a == (if b then 1 else 0)
  | .int a, .int b => a == b
  | .str a, .str b => a == b
  | _, _ => false
theorem eqAt_V {A : Around} {s : Shared} {y x : V} {u v : Value} (ry : RelV y u) (rx : RelV x v) (fy : flatV y = true) (fx : flatV x = true) : SeqAt.EqAt A s u v (eqV y x) := by
  cases y with
  | non =>
    cases ry
    cases x with
    | non => cases rx; exact SeqAt.EqAt.same _
    | bl b => cases rx; exact SeqAt.EqAt.none_bool b
    | int b => obtain ⟨t, rfl⟩ := rx; exact SeqAt.EqAt.none_int b t
    | str b => obtain ⟨t, rfl⟩ := rx; exact SeqAt.EqAt.none_str b t
    | _ => exact absurd (show false = true from fx) Bool.false_ne_true
  | bl a =>
    cases ry
    cases x with
    | non => cases rx; exact SeqAt.EqAt.bool_none a
    | bl b => cases rx; exact SeqAt.EqAt.bool_bool a b
    | int b => obtain ⟨t, rfl⟩ := rx; exact SeqAt.EqAt.bool_int a b t
    | str b => obtain ⟨t, rfl⟩ := rx; exact SeqAt.EqAt.bool_str a b t
    | _ => exact absurd (show false = true from fx) Bool.false_ne_true
  | int a =>
    obtain ⟨t', rfl⟩ := ry
    cases x with
    | non => cases rx; exact SeqAt.EqAt.int_none a t'
    | bl b => cases rx; exact SeqAt.EqAt.int_bool a t' b
    | int b => obtain ⟨t, rfl⟩ := rx; exact SeqAt.EqAt.int_int a t' b t
    | str b => obtain ⟨t, rfl⟩ := rx; exact SeqAt.EqAt.int_str a t' b t
    | _ => exact absurd (show false = true from fx) Bool.false_ne_true
  | str a =>
    obtain ⟨t', rfl⟩ := ry
    cases x with
    | non => cases rx; exact SeqAt.EqAt.str_none a t'
    | bl b => cases rx; exact SeqAt.EqAt.str_bool a t' b
    | int b => obtain ⟨t, rfl⟩ := rx; exact SeqAt.EqAt.str_int a t' b t
    | str b => obtain ⟨t, rfl⟩ := rx; exact SeqAt.EqAt.str_str a t' b t
    | _ => exact absurd (show false = true from fx) Bool.false_ne_true
  | _ => exact absurd (show false = true from fy) Bool.false_ne_true
noncomputable def eqU (x : V) (u : Value) : Bool := match u with
  | .none => eqV .non x
  | .bool b => eqV (.bl b) x
  | .int i _ => eqV (.int i) x
  | .str z _ => eqV (.str z) x
  | _ => false
theorem eqU_of {x y : V} {u : Value} (r : RelV y u) (f : flatV y = true) : eqU x u = eqV y x := by
  cases y with
  | non => cases r; rfl
  | bl b => cases r; rfl
  | int i => obtain ⟨t, rfl⟩ := r; rfl
  | str z => obtain ⟨t, rfl⟩ := r; rfl
  | _ => exact absurd (show false = true from f) Bool.false_ne_true
theorem any_eqU {x : V} : ∀ {xs : List V} {us : List Value}, Vals xs us → xs.all flatV = true → us.any (eqU x) = xs.any fun y => eqV y x
  | _, _, .nil, _ => rfl
  | y :: xs, u :: us, .cons r t, f => by
    rw [List.all_cons, Bool.and_eq_true] at f
    rw [List.any_cons, List.any_cons, eqU_of r f.1, any_eqU t f.2]
theorem mem_eqAt {A : Around} {s : Shared} {x : V} {v : Value} (rx : RelV x v) (fx : flatV x = true) : ∀ {xs : List V} {us : List Value}, Vals xs us → xs.all flatV = true → ∀ u ∈ us, SeqAt.EqAt A s u v (eqU x u)
  | _, _, .nil, _ => fun u hu => by cases hu
  | y :: xs, u :: us, .cons r t, f => fun u' hu => by
    rw [List.all_cons, Bool.and_eq_true] at f
    rcases List.mem_cons.mp hu with rfl | hu
    · rw [eqU_of r f.1]; exact eqAt_V r rx f.1 fx
    · exact mem_eqAt rx fx t f.2 u' hu
noncomputable def inV (x : V) (xs : List V) : Bool := xs.any fun y => eqV y x
inductive IrIn (K : PySem.W.Frag) (neg : Bool) (x : V) (y : V) (H : Hp) (Q : VK) : Prop where
  | mk (p : Addr) (xs : List V) (h0 : y = .ref p) (h1 : (SqL K H p xs ∨ SqT K H p xs)) (h2 : flatV x = true) (h3 : xs.all flatV = true) (h4 : Q (.bl (if neg then !inV x xs else inV x xs)) H) : IrIn K neg x y H Q
noncomputable def rIn (K : PySem.W.Frag) (neg : Bool) : R2 := fun x y H Q => IrIn K neg x y H Q
theorem op_in_seq : OpR X (compareOp .In) (rIn X.K false) := by
  intro pins s σ H x y v u Q I rx ry h
  obtain ⟨p, xs, rfl, hq, fx, fs, q⟩ := h
  cases ry
  rcases hq with hq | hq
  · obtain ⟨its, r, pl, hz⟩ := I.list hq
    refine SeqAt.in_listAt (eqU x) pl.isList (fun w hw => mem_eqAt rx fx r fs w (by simpa using hw)) ⟨.bl _, H, I, rfl, ?_⟩
    rw [show its.toArray.any (eqU x) = its.any (eqU x) by simp, any_eqU r fs]
    exact q
  · obtain ⟨its, r, pl, hz⟩ := I.tuple hq
    refine SeqAt.in_tupleAt (eqU x) pl (fun w hw => mem_eqAt rx fx r fs w (by simpa using hw)) ⟨.bl _, H, I, rfl, ?_⟩
    rw [show its.toArray.any (eqU x) = its.any (eqU x) by simp, any_eqU r fs]
    exact q
theorem call_len_seq : CallR X (.builtin "len") (fun xs H Q => ∃ p ys, xs = [.ref p] ∧ (SqL X.K H p ys ∨ SqT X.K H p ys) ∧ Q (.int ys.length) H) := by
  intro pins s σ H xs us Q I r h
  obtain ⟨p, ys, rfl, hq, q⟩ := h
  obtain ⟨u, rfl, rx⟩ := vals1 r
  cases rx
  have hn := line63
  rcases hq with hq | hq
  · obtain ⟨its, r', pl, hz⟩ := I.list hq
    have hlen := r'.length
    exact Calls.call_len_list pl.isList (by simp only [List.size_toArray] <;> (first | with_reducible assumption | lia | omega)) ⟨.int ys.length, H, I.tok _, ⟨s.toks + 1, by rw [List.size_toArray, hlen]⟩, q⟩
  · obtain ⟨its, r', pl, hz⟩ := I.tuple hq
    have hlen := r'.length
    exact len_tuple pl (by simp only [List.size_toArray] <;> (first | with_reducible assumption | lia | omega)) ⟨.int ys.length, H, I.tok _, ⟨s.toks + 1, by rw [List.size_toArray, hlen]⟩, q⟩
theorem call_list_of : CallR X (.type "list") (fun xs H Q => ∃ p ys, xs = [.ref p] ∧ (SqL X.K H p ys ∨ SqT X.K H p ys) ∧ ∀ l, H l = none → Q (.ref l) (upd H l (.lst ys))) := by
  intro pins s σ H xs us Q I r h
  obtain ⟨p, ys, rfl, hq, q⟩ := h
  obtain ⟨u, rfl, rx⟩ := vals1 r
  cases rx
  have fin : ∀ (its : List Value), Vals ys its → ys.length ≤ sizeLine → ∀ (h' : Heap) (c' : Nat), (∀ b o', s.heap.get? b = some o' → h'.get? b = some o') →
      h'.get? s.heap.objs.size = some { cls := .type "list", dict := none, data := .seq its.toArray c', slots := #[] } → EP X pins σ Q (.ref s.heap.objs.size) { s with heap := h' } := fun its r' hz h' c' kp e =>
    ⟨.ref s.heap.objs.size, _, I.laid (t' := s.toks) kp (Nat.le_refl _) (show ObjOk X.prog X.w _ h' _ (.lst ys) from ⟨hz, its, c', r', e⟩), rfl, q _ (I.hok.fresh (Nat.le_refl _))⟩
  rcases hq with hq | hq
  · obtain ⟨its, r', pl, hz⟩ := I.list hq
    have hlen := r'.length
    obtain ⟨o, ho, hc, n, hd⟩ := pl.isList
    exact call_list_seq p (.inl rfl) ho hc hd (fun h' c' kp e => fin its r' hz h' c' kp e) (by simp only [List.size_toArray] <;> (first | with_reducible assumption | lia | omega))
  · obtain ⟨its, r', pl, hz⟩ := I.tuple hq
    have hlen := r'.length
    obtain ⟨o, ho, hc, n, hd⟩ := pl
    exact call_list_seq p (.inr rfl) ho hc hd (fun h' c' kp e => fin its r' hz h' c' kp e) (by simp only [List.size_toArray] <;> (first | with_reducible assumption | lia | omega))
noncomputable def tyV (K : PySem.W.Frag) (T : String) (x : V) (H : Hp) : Prop := match x with
  | .str _ => T = "str"
  | .int _ => T = "int"
  | .ref p => (T = "list" ∧ ∃ xs, SqL K H p xs) ∨ (T = "tuple" ∧ ∃ o, K.lookup p = some o ∧ o.cls = .type "tuple" ∧ o.dict = none) ∨
      (T = "dict" ∧ ((∃ kvs, H p = some (.dK kvs)) ∨ ∃ kvs, H p = some (.dT kvs))) ∨ (T = "set" ∧ ∃ S n, H p = some (.set S n))
  | _ => False
theorem tyV_is {pins : List (Addr × Obj)} {σ : St} {H : Hp} {s : Shared} {T : String} {x : V} {v : Value} (I : Inv X pins σ H s) (r : RelV x v) (ty : tyV X.K T x H) :
    s.TypeIs v T ∧ ∀ a, v = .ref a → ∃ ob, s.heap.get? a = some ob ∧ ob.dict = none := by
  cases x with
  | str z =>
    obtain ⟨t, rfl⟩ := r
    cases (show T = "str" from ty)
    exact ⟨typeIs_str s z t, fun _ e => nomatch e⟩
  | int i =>
    obtain ⟨t, rfl⟩ := r
    cases (show T = "int" from ty)
    exact ⟨typeIs_int s i t, fun _ e => nomatch e⟩
  | ref p =>
    cases r
    rcases ty with ⟨rfl, xs, hq⟩ | ⟨rfl, o, hk, hc, hd⟩ | ⟨rfl, hk⟩ | ⟨rfl, S, n, hk⟩
    · obtain ⟨its, _, pl, _⟩ := I.list hq
      refine ⟨pl.isList.typeIs, fun a e => ?_⟩
      cases e
      obtain ⟨o, n, e, c, hd, _⟩ := pl
      exact ⟨o, e, hd⟩
    · refine ⟨⟨o, I.kIn p o hk, hc⟩, fun a e => ?_⟩
      cases e
      exact ⟨o, I.kIn _ o hk, hd⟩
    · have z : ∃ o, s.heap.get? p = some o ∧ o.ExactDict := by
        rcases hk with ⟨kvs, hk⟩ | ⟨kvs, hk⟩
        · obtain ⟨_, _, _, _, o, _, _, e, ex, _⟩ := I.hok p _ hk
          exact ⟨o, e, ex⟩
        · obtain ⟨_, _, _, _, o, _, _, e, ex, _⟩ := I.hok p _ hk
          exact ⟨o, e, ex⟩
      obtain ⟨o, e, ex⟩ := z
      refine ⟨⟨o, e, ex.1⟩, fun a e2 => ?_⟩
      cases e2
      exact ⟨o, e, ex.2.1⟩
    · obtain ⟨o, _, _, _, e, ex, _⟩ := I.hok p _ hk
      refine ⟨⟨o, e, ex.1⟩, fun a e2 => ?_⟩
      cases e2
      exact ⟨o, e, ex.2.1⟩
  | _ => exact False.elim ty
noncomputable def tBM0 (K : PySem.W.Frag) (T : String) (r : V → List V → Hp → VK → Prop) (to : TE) : TE := fun σ H Q => to σ H fun x H1 => tyV K T x H1 ∧ r x [] H1 Q
noncomputable def tBM (K : PySem.W.Frag) (T : String) (r : V → List V → Hp → VK → Prop) (to : TE) (t : TA) : TE := fun σ H Q => to σ H fun x H1 => tyV K T x H1 ∧ t σ H1 fun xs H2 => r x xs H2 Q
variable {o e : Expr} {es : List Expr} {to : TE} {t : TA} {name : Str} {apos cpos : Pos} {T id : String} {r : V → List V → Hp → VK → Prop}
theorem pe_bm0 (pa : PlainAttrs T) (slot : Slot T name id) (hty : typeOf (.builtin id) = pure (.type "method_descriptor")) (hm : MtR X id r) (ho : PE X o to)
    (hbase : attributeBase o name X.env (eval o X.env) = eval o X.env := by rfl) (hline : (apos.endLine == cpos.line) = true := by rfl) : PE X (.Call (.Attribute o name apos) [] [] cpos) (tBM0 X.K T r to) := by
  intro pins s σ H Q I h
  refine wpAny_Call_method0_late hbase hline (thn (ho pins s σ H _ I h) fun v s1 hq_ => EPe hq_ fun x H1 I1 r1 ⟨ty, q1⟩ => ?_)
  obtain ⟨h1, h2⟩ := tyV_is I1 r1 ty
  exact ⟨T, id, pa, slot, hty, h1, h2, Calls.callWith_builtin rfl (PySem.evalArgs_none (hm pins s1 σ H1 x [] v [] Q I1 r1 .nil q1))⟩
theorem pe_bm (pa : PlainAttrs T) (slot : Slot T name id) (hty : typeOf (.builtin id) = pure (.type "method_descriptor")) (hm : MtR X id r) (ho : PE X o to) (ha : PA X (e :: es) t)
    (hbase : attributeBase o name X.env (eval o X.env) = eval o X.env := by rfl)
    (hfew : ((backTo cpos (starEach (e :: es) X.env)).all (fun x => !x.1) && (backToKw cpos (keywordEach [] X.env)).all (fun x => x.1.isSome)
      && decide ((e :: es).length + ([] : List Keyword).length + (if ([] : List Keyword).isEmpty then 0 else 1) < 30)) = true := by rfl)
    (hline : (apos.endLine == cpos.line) = true := by rfl) (hs : starEach (e :: es) X.env = (false, eval e X.env) :: starEach es X.env := by rfl) (hplain : (backTo cpos (starEach es X.env)).any (·.1) = false := by rfl) :
    PE X (.Call (.Attribute o name apos) (e :: es) [] cpos) (tBM X.K T r to t) := by
  intro pins s σ H Q I h
  refine wpAny_Call_method_late hbase hfew hline rfl (thn (ho pins s σ H _ I h) fun v s1 hq_ => EPe hq_ fun x H1 I1 r1 ⟨ty, q1⟩ => ?_)
  obtain ⟨h1, h2⟩ := tyV_is I1 r1 ty
  refine ⟨T, id, pa, slot, hty, h1, h2, ?_⟩
  have hA := ha cpos pins s1 σ H1 _ I1 q1
  rw [hs] at hA ⊢
  refine Calls.callWith_builtin (by show (false || (backTo cpos (starEach es X.env)).any (·.1)) = false; rw [hplain] <;> rfl) (Calls.evalArgs_plain ?_)
  exact thn hA fun us s2 hq_ => APe hq_ fun vs H2 I2 r2 q2 => hm pins s2 σ H2 x vs v us Q I2 r1 r2 q2
end
end L2
namespace L2
open PySem PySem.Spec PyProof.Rows
noncomputable def MtM (X : Cx) (id : String) (r : V → List V → Hp → VK → Prop) : Prop :=
  ∀ (pins : List (Addr × Obj)) (s : Shared) (σ : St) (H : Hp) (x : V) (xs : List V) (v : Value) (us : List Value) (Q : VK), Inv X pins σ H s → RelV x v → Vals xs us → r x xs H Q →
    wpAny (model X.prog X.w) X.A (call (.builtin id) (v :: us)) (EP X pins σ Q) X.xe s
theorem Vals.one : ∀ {x : V} {us : List Value}, Vals [x] us → ∃ u, us = [u] ∧ RelV x u
  | _, _, .cons r .nil => ⟨_, rfl, r⟩
theorem Vals.zero : ∀ {us : List Value}, Vals [] us → us = []
  | _, .nil => rfl
theorem Vals.dropLast {xs : List V} {us : List Value} (h : Vals xs us) : Vals xs.dropLast us.dropLast := by
  induction h with
  | nil => exact .nil
  | cons r t ih =>
    cases t with
    | nil => exact .nil
    | cons q t' => exact .cons r ih
theorem Vals.rep {xs : List V} {us : List Value} (h : Vals xs us) : ∀ k : Nat, Vals (List.replicate k xs).flatten (List.replicate k us).flatten
  | 0 => .nil
  | k + 1 => by
    rw [List.replicate_succ, List.replicate_succ, List.flatten_cons, List.flatten_cons]
    exact Vals.append h (Vals.rep h k)
theorem erase_last {α : Type} (l : List α) : l.eraseIdx (l.length - 1) = l.dropLast := by
  induction l with
  | nil => rfl
  | cons a r ih =>
    cases r with
    | nil => rfl
    | cons b r =>
      have e : (a :: b :: r).length - 1 = ((b :: r).length - 1) + 1 := by
        have h1 : (a :: b :: r).length = r.length + 2 := rfl
        have h2 : (b :: r).length = r.length + 1 := rfl
        (first | with_reducible assumption | lia | omega)
      rw [e, List.eraseIdx_cons_succ, ih]
      all_goals rfl
theorem foldl_rep (its : List Value) : ∀ (k : Nat) (acc : List Value),
    List.foldl (fun x1 x2 => x1 ++ x2) acc.toArray (List.replicate k its.toArray) = (acc ++ (List.replicate k its).flatten).toArray
  | 0, acc => by simp
  | k + 1, acc => by
    have e : acc.toArray ++ its.toArray = (acc ++ its).toArray := by simp
    have e2 : (acc ++ its) ++ (List.replicate k its).flatten = acc ++ (List.replicate (k + 1) its).flatten := by
      rw [List.replicate_succ, List.flatten_cons, List.append_assoc]
    rw [← e2, ← foldl_rep its k (acc ++ its), ← e, List.replicate_succ, List.foldl_cons]
section
variable {X : Cx} {pins : List (Addr × Obj)} {σ : St} {H : Hp} {s : Shared} {l b : Addr} {xs ys zs : List V}
theorem Inv.lset {its its' : List Value} {n : Nat} {f : Array Value → Array Value} {t' : Nat} (I : Inv X pins σ H s) (hH : H l = some (.lst xs))
    (e : s.heap.get? l = some { cls := .type "list", data := .seq its.toArray n }) (hf : f its.toArray = its'.toArray) (hv : Vals ys its') (hz : ys.length ≤ sizeLine) :
    Inv X pins σ (upd H l (.lst ys)) { s with heap := s.heap.update l (Obj.mapSeq f), toks := t' } := by
  have q := PySem.IsL.update e f
  rw [hf] at q
  refine I.write (x := l) (e := l) (by rw [hH]; exact trivial) (.inl rfl) (fun b' u hb hu => (Heap.get?_update_other s.heap (Obj.mapSeq f) (Ne.symm hb)).trans hu) ⟨_, q⟩ ?_
  exact ⟨hz, its', _, hv, q⟩
theorem Inv.lnew {its : List Value} {t' : Nat} (I : Inv X pins σ H s) (hv : Vals ys its) (hz : ys.length ≤ sizeLine) :
    Inv X pins σ (upd H s.heap.objs.size (.lst ys)) { s with heap := s.heap.push { cls := .type "list", data := .seq its.toArray }, toks := t' } :=
  I.laid (fun _ _ q => Heap.get?_push_of_some _ q) (Nat.le_refl _) ⟨hz, its, 0, hv, Heap.get?_push_size _ rfl⟩
theorem Inv.fresh (I : Inv X pins σ H s) : H s.heap.objs.size = none := I.hok.fresh (Nat.le_refl _)
theorem Inv.lstM (I : Inv X pins σ H s) (hH : H l = some (.lst xs)) : xs.length ≤ sizeLine ∧ ∃ (its : List Value) (n : Nat), Vals xs its ∧ xs.length = its.length ∧ s.heap.get? l = some { cls := .type "list", data := .seq its.toArray n } := by
  obtain ⟨z, its, n, r, e⟩ := I.hok l _ hH
  exact ⟨z, its, n, r, r.length, e⟩
theorem notLongL {n : Nat} (h : n ≤ sizeLine) : Builtin.List.listTooLong n = false := by
  unfold Builtin.List.listTooLong
  exact decide_eq_false (by (first | with_reducible assumption | lia | omega))
end
section
variable {X : Cx}
inductive IrAppend  (x : V) (vs : List V) (H : Hp) (Q : VK) : Prop where
  | mk (l : Addr) (xs : List V) (y : V) (h0 : x = .ref l) (h1 : vs = [y]) (h2 : H l = some (.lst xs)) (h3 : xs.length < sizeLine) (h4 : Q .non (upd H l (.lst (xs ++ [y])))) : IrAppend  x vs H Q
noncomputable def rAppend : V → List V → Hp → VK → Prop := fun x vs H Q => IrAppend  x vs H Q
theorem mt_append : MtM X "list.append" rAppend := by
  intro pins s σ H x vs v us Q I rx rv h
  obtain ⟨l, xs, y, rfl, rfl, hH, hz, q⟩ := h
  cases rx
  obtain ⟨u, rfl, ru⟩ := rv.one
  obtain ⟨z, its, n, r, hl, e⟩ := I.lstM hH
  refine call_meets F.slot_list_append ⟨_, e, rfl⟩ F.entry_list_append (F.args_list_append_2 _ _) (PySem.list_append l its.toArray n u (by rw [List.size_toArray]; (first | with_reducible assumption | lia | omega))) ⟨e, ?_⟩
  refine ⟨.non, _, I.lset (its' := its ++ [u]) hH e (by simp) (r.append (.cons ru .nil)) ?_, rfl, q⟩
  rw [List.length_append, List.length_singleton]
  (first | with_reducible assumption | lia | omega)
inductive IrPop  (x : V) (vs : List V) (H : Hp) (Q : VK) : Prop where
  | mk (l : Addr) (xs : List V) (y : V) (h0 : x = .ref l) (h1 : vs = []) (h2 : H l = some (.lst xs)) (h3 : xs[xs.length - 1]? = some y) (h4 : Q y (upd H l (.lst xs.dropLast))) : IrPop  x vs H Q
noncomputable def rPop : V → List V → Hp → VK → Prop := fun x vs H Q => IrPop  x vs H Q
theorem mt_pop : MtM X "list.pop" rPop := by
  intro pins s σ H x vs v us Q I rx rv h
  obtain ⟨l, xs, y, rfl, rfl, hH, hy, q⟩ := h
  cases rx
  have hus := rv.zero
  subst hus
  obtain ⟨z, its, n, r, hl, e⟩ := I.lstM hH
  obtain ⟨u, hu, ru⟩ := r.get hy
  have hy' : its.toArray[its.toArray.size - 1]? = some u := by
    show its.toArray[its.length - 1]? = some u
    rw [← Array.getElem?_toList, ← hl]
    exact hu
  refine call_meets F.slot_list_pop ⟨_, e, rfl⟩ F.entry_list_pop (F.args_list_pop_1 _) (MeetsSeq.list_pop_last l its.toArray n u hy' (by rw [List.size_toArray]; (first | with_reducible assumption | lia | omega))) ⟨e, ?_⟩
  refine ⟨y, _, I.lset (its' := its.dropLast) hH e ?_ r.dropLast ?_, ru, q⟩
  · show its.toArray.eraseIdxIfInBounds (its.toArray.size - 1) = its.dropLast.toArray
    rw [List.size_toArray, List.eraseIdxIfInBounds_toArray, erase_last]
  · rw [List.length_dropLast]
    (first | with_reducible assumption | lia | omega)
inductive IrCat  (x : V) (y : V) (H : Hp) (Q : VK) : Prop where
  | mk (l b : Addr) (xs zs : List V) (h0 : x = .ref l) (h1 : y = .ref b) (h2 : H l = some (.lst xs)) (h3 : H b = some (.lst zs)) (h4 : xs.length + zs.length ≤ sizeLine) (h5 : ∀ p, H p = none → Q (.ref p) (upd H p (.lst (xs ++ zs)))) : IrCat  x y H Q
noncomputable def rCat : R2 := fun x y H Q => IrCat  x y H Q
theorem op_cat : OpR X (binaryOp .Add) rCat := by
  intro pins s σ H x y v u Q I rx ry h
  obtain ⟨l, b, xs, zs, rfl, rfl, hH, hB, hz, q⟩ := h
  cases rx
  cases ry
  obtain ⟨z, its, n, r, hl, e⟩ := I.lstM hH
  obtain ⟨z2, its2, n2, r2, hl2, e2⟩ := I.lstM hB
  refine PySem.P.add_list e e2 ?_ (by rw [List.size_toArray, List.size_toArray]; (first | with_reducible assumption | lia | omega))
  have ea : its.toArray ++ its2.toArray = (its ++ its2).toArray := by simp
  rw [ea]
  exact ⟨.ref _, _, I.lnew (t' := s.toks) (r.append r2) (by rw [List.length_append]; (first | with_reducible assumption | lia | omega)), rfl, q _ I.fresh⟩
noncomputable def rRep : R2 := fun x y H Q => ∃ l k xs, x = .ref l ∧ y = .int k ∧ H l = some (.lst xs) ∧ -(2 ^ 63) ≤ k ∧ k < 2 ^ 63 ∧ xs.length * k.toNat ≤ sizeLine ∧
  ∀ p, H p = none → Q (.ref p) (upd H p (.lst (List.replicate k.toNat xs).flatten))
theorem len_rep {α : Type} (xs : List α) (k : Nat) : (List.replicate k xs).flatten.length = k * xs.length := by
  induction k with
  | zero => simp
  | succ k ih => rw [List.replicate_succ, List.flatten_cons, List.length_append, ih, Nat.succ_mul, Nat.add_comm]
theorem op_rep : OpR X (binaryOp .Mult) rRep := by
  intro pins s σ H x y v u Q I rx ry h
  obtain ⟨l, k, xs, rfl, rfl, hH, h1, h2, hz, q⟩ := h
  cases rx
  obtain ⟨t, rfl⟩ := ry
  obtain ⟨z, its, n, r, hl, e⟩ := I.lstM hH
  have hlen : its.toArray.size * k.toNat ≤ sizeLine := by rw [List.size_toArray, ← hl]; exact hz
  have hcap : ¬ its.toArray.size * k.toNat > (2 ^ 63 - 1) / 8 := by
    have : (sizeLine : Nat) ≤ (2 ^ 63 - 1) / 8 := by decide
    (first | with_reducible assumption | lia | omega)
  have hfit : ¬ (!Builtin.List.listFitsIndex k) = true := by
    rw [fitsIndex_both h1 h2]
    exact Bool.false_ne_true
  have hlong : ¬ Builtin.List.listTooLong (its.toArray.size * k.toNat) = true := by
    rw [notLongL hlen]
    exact Bool.false_ne_true
  have hnew : List.foldl (fun x1 x2 => x1 ++ x2) #[] (List.replicate (if its.toArray.isEmpty = true then 0 else k.toNat) its.toArray) = (List.replicate k.toNat its).flatten.toArray := by
    have f0 : ∀ m : Nat, List.foldl (fun x1 x2 => x1 ++ x2) #[] (List.replicate m its.toArray) = (List.replicate m its).flatten.toArray := fun m => by
      have := foldl_rep its m []
      rw [List.nil_append] at this
      exact this
    rw [f0]
    cases its with
    | nil => simp
    | cons a r' => rw [if_neg (by simp)]
  refine wpAny_binaryOp_repeat_ref (T := "list") (U := "int") (by decide) ⟨_, e, rfl⟩ (fun s' => typeIs_int s' k t) noFill_list_mul F.fills_int_mul F.slot_int_rmul repeat_list F.slot_int_index.lookup
    (call_meets F.slot_int_rmul (typeIs_int s k t) F.entry_int_rmul (F.args_int_rmul_2 _ _) (int___rmul___int_list k t l its.toArray n)
      ⟨e, rfl, ⟨_, e, rfl⟩, call_meets F.slot_list_mul ⟨_, e, rfl⟩ F.entry_list_mul (F.args_list_mul_2 _ _) (AutoListH.list___mul___list_int_3 l its.toArray n k t hfit hcap hlong) ⟨e, ?_⟩⟩)
  rw [hnew]
  exact ⟨.ref _, _, I.lnew (t' := s.toks) (r.rep k.toNat) (by rw [len_rep, Nat.mul_comm]; exact hz), rfl, q _ I.fresh⟩
end
section
variable {prog : Program} {w : World} {A : Around} {E : Value → Shared → Prop} {s : Shared}
end
section
variable {X : Cx}
end
end L2
namespace Att
open PySem PySem.W PySem.Calls PyProof.Rows
theorem ints_of_wellAll {P : Params} {h : Heap} : ∀ (ns : List Int) (vs : List Value), WellAll P h vs (ns.map WData.int) → IntsAre vs ns := by
  intro ns
  induction ns with
  | nil =>
    intro vs w
    rw [List.map_nil] at w
    cases w
    exact .nil
  | cons n ns ih =>
    intro vs w
    rw [List.map_cons] at w
    cases w with
    | cons a b =>
      cases a
      exact .cons _ _ (ih _ b)
theorem script_of {l : OpenLaw} {n : Nat} (hn : l.most = some n) {P : Params} {h : Heap} {args : List WData} {vals : List Value}
    (hpre : l.row.toRowW.claim.pre args = true) (hwl : WellAll P h vals args) :
    ∃ a vs ns, vals = [Value.ref a] ∧ args = [WData.list (ns.map WData.int)] ∧ h.get? a = some { cls := .type "list", data := .seq vs.toArray } ∧ IntsAre vs ns ∧ ns.length ≤ n := by
  have hsh : WShape.hasAll [] args [.list .int] = true := (pre_splitW hpre).1
  have hc : l.pre.holds [] { args := args } = true := (pre_splitW hpre).2
  obtain ⟨d, r, rfl, h1, h2⟩ := hasAllW_cons hsh
  obtain rfl := hasAllW_nil h2
  obtain ⟨xs, rfl, h3⟩ := hasW_list h1
  obtain ⟨ns, rfl⟩ := items_int h3
  have hlen : ns.length ≤ n := by
    unfold OpenLaw.pre at hc
    have h4 : (WTm.not (.lt (.lit (.int (n : Int))) (.len (.arg 0)))).holds [] { args := [.list (ns.map .int)] } = true := by
      have h4 := (holds_andW hc).1
      rw [hn] at h4
      exact h4
    have h5 := condW_of h4 (w_not (w_lt w_lit (w_len_list (w_arg rfl))))
    rw [List.length_map] at h5
    refine Nat.le_of_not_lt fun q => ?_
    have q' : (n : Int) < ((ns.length : Nat) : Int) := by (first | with_reducible assumption | lia | omega)
    first
      | (rw [decide_eq_true q'] at h5; exact absurd h5 (by decide))
      | (simp at h5; (first | with_reducible assumption | lia | omega))
  cases hwl with
  | cons w1 w2 =>
    cases w2
    cases w1 with
    | list ho hall => exact ⟨_, _, ns, rfl, rfl, ho, ints_of_wellAll ns _ hall, hlen⟩
theorem post_true (l : OpenLaw) (args : List WData) : l.row.toRowW.claim.post args (.bool true) args = true :=
  postW_of (r := l.row.toRowW) (X := (true == true))
    (show WShape.has [] (.bool true) .bool = true by first | rfl | decide | simp [WShape.has, WShape.arms, WShape.armsAll])
    (show (WTm.eq .res (.lit (.bool true))).value [] { args := args, res := some (.bool true), after := args } = some (.bool (true == true)) from w_eq_bool (w_res rfl) w_lit) rfl
theorem attach_call {l : OpenLaw} {n : Nat} {q : Program} {loose : List Str} {XP : (Str → Option Value) → Heap → Prop} {YP : World → Heap → Prop} {d : DefRec}
    (hn : l.most = some n) (hdf : d.params.defaults = [])
    (call : ∀ (w : World) (s₀ s₁ : Shared) (mg mb : Str → Option Value) (fa : Addr) (o : Obj) (pm cd doc : Value) (a : Addr) (vs : List Value) (ns : List Int),
      Ground q loose [] XP w s₀ mg mb s₁.heap → YP w s₁.heap →
      s₁.heap.get? fa = some o → o.data = .func (docDef d.name d.params d.body d.scope pm cd doc) → s₁.heap.CodeRec cd d.name → mg d.name = some (.ref fa) →
      s₁.heap.get? a = some { cls := .type "list", data := .seq vs.toArray } → IntsAre vs ns → ns.length ≤ n → s₁.gens = #[] →
      codeAny (model l.prog w) callerA (.call (.ref fa) ⟨[.ref a], []⟩) (fun r s' => r = .ok (.ret (.bool true)) ∧ OldK s₁.heap s'.heap ∧ s'.os = s₁.os ∧ AllBare s'.gens) s₁) :
    WalkO q loose XP YP l.row.toRowW d [] (fun f vs => PySem.call f vs) := by
  intro w s₀ s₁ mg mb G Y fa o pm cd doc dV kV ho hd hcd hD hmg hg args vals as hpre hlay hrd hwl hlo
  obtain rfl : dV = .none := Dflts.none hD hdf
  obtain rfl : kV = .none := Dflts.noKw hD
  obtain ⟨a, vs, ns, rfl, rfl, hobj, hints, hlen⟩ := script_of hn hpre hwl
  refine enter_call (codeAny_mono (call w s₀ s₁ mg mb fa o pm cd doc a vs ns G Y ho (fd_plain hd) hcd hmg hobj hints hlen hg) fun r s' hq => ?_)
  obtain ⟨rfl, h2, h3, h4⟩ := hq
  exact ⟨.inl ⟨.bool true, .bool true, [], rfl, fun _ => rfl, .bool true, post_true l _, fun _ => ⟨List.Pairwise.nil, fun _ hm => (nomatch hm)⟩⟩, h2, h3, h4⟩
section
variable {prog : Program} {w : World} {A : Around} {E : Value → Shared → Prop} {s : Shared} {K : Frag}
end
end Att
namespace L2
open PySem PySem.Spec PyProof.Rows
theorem vals_ints : ∀ {vs : List Value} {ns : List Int}, IntsAre vs ns → Vals (ns.map V.int) vs
  | _, _, .nil => .nil
  | _, _, .cons n t h => .cons ⟨t, rfl⟩ (vals_ints h)
noncomputable def Only (H : Hp) : Prop := ∀ b, H b = none ∨ ∃ o xs, H b = some (.frz o (.lst xs))
theorem law_call {P : Program} {w : World} {K : PySem.W.Frag} {mg mb : Str → Option Value} {CX : CXT} {k : Nat} {fa a : Addr} {fd : FuncData} {x : Str} {sp : Sp} {s₁ : Shared} {vs : List Value} {ns : List Int}
    (KX : K.In s₁.heap) (hns : s₁.heap.Ns mainGlobals mg) (hb : s₁.heap.Ns builtinsNs mb) (hbb : ∀ x : Str, x ≠ "__name__" → mb x = bootBuiltins x) (hlim : s₁.heap.NoLimit) (hg : s₁.gens = #[])
    (ha : s₁.heap.get? a = some { cls := .type "list", data := .seq vs.toArray }) (hi : IntsAre vs ns) (hl : ns.length ≤ sizeLine) (hr : Room k callerA)
    (F : ∀ base : Heap, K.In base → base.Ns mainGlobals mg → FnOk P w K mg base CX k fa fd [x] sp) (hbind : ∀ (s : Shared) (u : Value), BindsTo s fd ⟨[u], []⟩ [(x, u)])
    (hsp : ∀ H : Hp, Only H → SqL K H a (ns.map V.int) → sp [.ref a] H (fun v _ => v = .bl true) fun _ _ _ => False)
    (hCX : ∀ H e s', CX [] H s₁ (fun _ _ _ => False) e s' → False) :
    codeAny (model P w) callerA (.call (.ref fa) ⟨[.ref a], []⟩) (fun r s' => r = .ok (.ret (.bool true)) ∧ OldK s₁.heap s'.heap ∧ s'.os = s₁.os ∧ AllBare s'.gens) s₁ := by
  have rv := vals_ints hi
  have lenV := hi.length
  have core : ∀ H : Hp, Only H → SqL K H a (ns.map V.int) → HOk P w H s₁.heap → (∀ b, H b ≠ none → b = a) → (H a ≠ none → K.lookup a = none) →
      codeAny (model P w) callerA (.call (.ref fa) ⟨[.ref a], []⟩) (fun r s' => r = .ok (.ret (.bool true)) ∧ OldK s₁.heap s'.heap ∧ s'.os = s₁.os ∧ AllBare s'.gens) s₁ := by
    intro H hO hS hok hA hK
    have base_of : ∀ {b : Addr} {o : Obj}, s₁.heap.get? b = some o → H b = none → (hidT s₁.heap H).get? b = some o := fun e n => hidT_get e n
    have noA : ∀ {b : Addr} {o : Obj} {es : Array DictEntry} {ep : Nat}, s₁.heap.get? b = some o → o.data = .dict es ep → H b = none := fun {b o es ep} e d => by
      cases q : H b with
      | none => rfl
      | some u =>
        have e' : b = a := hA b (by rw [q]; simp)
        subst e'
        rw [ha] at e; cases e
        have d' : Data.seq vs.toArray _ = Data.dict es ep := d
        cases d'
    have nsK : ∀ {b : Addr} {m : Str → Option Value}, s₁.heap.Ns b m → (hidT s₁.heap H).Ns b m := fun {b m} ⟨o, es, ep, e, d, r⟩ => ⟨o, es, ep, base_of e (noA e d), d, r⟩
    have hKb : K.In (hidT s₁.heap H) := fun b o e => base_of (KX b o e) (by
      cases q : H b with
      | none => rfl
      | some u =>
        have e' : b = a := hA b (by rw [q]; simp)
        subst e'
        rw [hK (by rw [q]; simp)] at e; cases e)
    have hM : Mod K mg (hidT s₁.heap H) := ⟨hKb, nsK hns, ⟨mb, nsK hb, hbb⟩, let ⟨mc, h1, h2⟩ := hlim; ⟨mc, nsK h1, h2⟩⟩
    have e0 : Env0 P w K mg (hidT s₁.heap H) callerA [] s₁ H := ⟨rfl, hM, fun b o e => of_hidT e, Nat.le_of_eq (hidT_size _ _), trivial, fun b hb => absurd (show b ∈ ([] : List Addr) from hb) (by simp), hok, .of_eq hg⟩
    refine codeAny_mono ((F _ hKb (nsK hns)).run callerA [] s₁ H ⟨[.ref a], []⟩ [.ref a] [.ref a] _ _ hr e0 (hbind s₁ (.ref a)) (.cons rfl .nil) (hsp H hO hS)) fun r s' h => ?_
    cases r with
    | error e => exact (hCX H e s' h).elim
    | ok fl =>
      cases fl with
      | next => exact False.elim h
      | brk => exact False.elim h
      | cont => exact False.elim h
      | ret u =>
        obtain ⟨v, H', os, bare, un, hok', r', q⟩ := h
        have q' : v = .bl true := q
        subst q'
        obtain rfl : u = Value.bool true := r'
        refine ⟨rfl, OldK.of_keep fun b o e => ?_, os, bare⟩
        cases q : H b with
        | none => exact un.keep b o e q (by intro z; exact absurd (show b ∈ ([] : List Addr) from z) (by simp)) (by simp)
        | some u =>
          rcases hO b with z | ⟨ob, xs, z⟩
          · rw [q] at z; cases z
          · have z2 := un.frzs b ob _ z
            obtain ⟨e1, _⟩ := hok b _ z
            obtain ⟨e2, _⟩ := hok' b _ z2
            rw [e] at e1; cases e1
            exact e2
  cases hk : K.lookup a with
  | some o =>
    have e := KX a o hk
    rw [ha] at e
    cases e
    refine core (fun _ => none) (fun _ => .inl rfl) (.inr ⟨_, vs.toArray, _, hk, rfl, rfl, rfl, by rw [List.size_toArray, lenV]; exact hl, by simpa using rv⟩) (fun b u z => by have z' : (none : Option HO) = some u := z; cases z') (fun b z => absurd rfl z) fun z => absurd rfl z
  | none =>
    refine core (fun b => if b = a then some (.frz { cls := .type "list", data := .seq vs.toArray } (.lst (ns.map V.int))) else none) (fun b => ?_) (.inl (.inr ⟨{ cls := .type "list", data := .seq vs.toArray }, if_pos rfl⟩)) (fun b u z => ?_) (fun b z => ?_) fun _ => hk
    · by_cases hb : b = a
      · exact .inr ⟨_, _, if_pos hb⟩
      · exact .inl (if_neg hb)
    · by_cases hb : b = a
      · have z' := (if_pos hb).symm.trans z
        cases z'
        subst hb
        exact ⟨ha, by rw [List.length_map]; exact hl, vs, _, rv, ha⟩
      · have z' := (if_neg hb).symm.trans z
        cases z'
    · by_cases hb : b = a
      · exact hb
      · exact absurd (if_neg hb) z
end L2
namespace L2
open PySem PySem.Spec PyProof.Rows
theorem walk_of {l : PySem.W.OpenLaw} {n k : Nat} {q : Program} {loose : List Str} {XP : (Str → Option Value) → Heap → Prop} {YP : World → Heap → Prop} {d : DefRec} {K : Params → PySem.W.Frag} {CX : World → CXT} {sp : World → Sp} {x : Str}
    (hn : l.most = some n) (hn2 : n ≤ sizeLine) (hdf : d.params.defaults = []) (hr : Room k callerA)
    (hY : ∀ (w : World) (h : Heap), YP w h → (K w.params).In h)
    (F : ∀ (w : World) (mg : Str → Option Value) (fa : Addr) (h : Heap), (K w.params).In h → h.Ns mainGlobals mg → mg d.name = some (.ref fa) →
      ∃ fd : FuncData, (∀ (s : Shared) (u : Value), BindsTo s fd ⟨[u], []⟩ [(x, u)]) ∧
        ∀ base : Heap, (K w.params).In base → base.Ns mainGlobals mg → FnOk l.prog w (K w.params) mg base (CX w) k fa fd [x] (sp w))
    (hsp : ∀ (w : World) (H : Hp) (a : Addr) (ns : List Int), ns.length ≤ n → Only H → SqL (K w.params) H a (ns.map V.int) → sp w [.ref a] H (fun v _ => v = .bl true) fun _ _ _ => False)
    (hCX : ∀ (w : World) (H : Hp) (s : Shared) (e : Value) (s' : Shared), CX w [] H s (fun _ _ _ => False) e s' → False) :
    PySem.W.WalkO q loose XP YP l.row.toRowW d [] (fun f vs => PySem.call f vs) := by
  refine Att.attach_call hn hdf fun w s₀ s₁ mg mb fa o pm cd doc a vs ns G Y ho hd hcd hmg hobj hints hlen hg => ?_
  have KX := hY w _ Y
  obtain ⟨fd, hb, hF⟩ := F w mg fa _ KX G.T.g hmg
  exact law_call KX G.T.g G.T.b G.T.builtins G.T.nolimit hg hobj hints (Nat.le_trans hlen hn2) hr hF hb (fun H hO hS => hsp w H a ns hlen hO hS) fun H e s' => hCX w H s₁ e s'
end L2
namespace L2
open PySem PySem.Spec PyProof.Rows
noncomputable def inClass (s : Stmt) (j : Nat) : Stmt := match s with
  | .ClassDef _ _ _ body _ _ _ _ _ _ _ => body.getD j (.Pass ⟨0, 0, 0, 0⟩)
  | _ => .Pass ⟨0, 0, 0, 0⟩
noncomputable def defArgs (s : Stmt) : Arguments := match s with
  | .FunctionDef _ a _ _ _ _ _ _ _ _ => a
  | _ => { posonlyargs := [], args := [], vararg := none, kwonlyargs := [], kw_defaults := [], kwarg := none, defaults := [] }
noncomputable def defBody (s : Stmt) : List Stmt := match s with
  | .FunctionDef _ _ b _ _ _ _ _ _ _ => b
  | _ => []
noncomputable def defScope (s : Stmt) : Scope := match s with
  | .FunctionDef _ _ _ _ _ _ sc _ _ _ => sc
  | _ => { kind := .function, names := [], isGenerator := false, isCoroutine := false }
noncomputable abbrev CX0 : CXT := fun _ _ _ _ _ _ => False
noncomputable abbrev E0 : XK := fun _ _ _ => False
theorem pass0 {X : Cx} : Passes CX0 X E0 := fun _ _ _ _ _ _ _ h => h.elim
structure Fun (K : PySem.W.Frag) (x qual : Str) (st : Stmt) (f : Addr) (fd : FuncData) : Prop where
  ex : ∃ (oc : Value) (od : Option Addr) (kV doc pm : Value) (an : Option Addr) (cdv ct : Value) (osl : Array (Option Value)),
    fd = PySem.W.fnOf x qual (defArgs st) (defBody st) (defScope st) .none kV doc pm an cdv ct ∧ K.lookup f = some ⟨oc, od, .func fd, osl⟩ ∧ PySem.W.codeIn K cdv qual = true
  kp : PySem.W.keepIn K (.ref f) = true
section
variable {P : Program} {w : World} {K : PySem.W.Frag} {mg : Str → Option Value} {base : Heap}
theorem Fun.ok {x qual : Str} {st : Stmt} {f : Addr} {fd : FuncData} {N ps : List Str} {k : Nat} {sp : Sp} (F : Fun K x qual st f fd) (S : FnScope N ps (defScope st)) (len : ∀ vs H Q E, sp vs H Q E → vs.length = ps.length)
    (hbody : ∀ (cdv : Value) (A : Around) (outer : List Env) (s : Shared) (H : Hp) (vs : List V) (Q : VK) (E : XK), Room k (A.deeper (envOfC qual (defScope st) s.heap.objs.size f cdv)) → sp vs H Q E →
      ∃ t, PSs (cxOf CX0 P w K mg base N qual (defScope st) f cdv A outer s H E).nox (defBody st) t ∧ t { nx := fun _ H' => Q .non H', rt := Q } (start N vs) H) : FnOk P w K mg base CX0 (k + 1) f fd ps sp := by
  obtain ⟨oc, od, kV, doc, pm, an, cdv, ct, osl, rfl, lk, hcd⟩ := F.ex
  refine fn_of lk hcd S len fun A outer s H vs Q E hr hsp => ?_
  obtain ⟨t, h, q⟩ := hbody cdv A outer s H vs Q E hr hsp
  exact ⟨t, h.nox, q⟩
theorem Fun.binds {x qual : Str} {st : Stmt} {f : Addr} {fd : FuncData} {ps : List Str} (F : Fun K x qual st f fd)
    (h : ∀ (kV doc pm : Value) (an : Option Addr) (cdv ct : Value) (us : List Value), us.length = ps.length → bindArgs (PySem.W.fnOf x qual (defArgs st) (defBody st) (defScope st) .none kV doc pm an cdv ct) ⟨us, []⟩ = pure (ps.zip us)) : Binds K fd ps [] := by
  obtain ⟨oc, od, kV, doc, pm, an, cdv, ct, osl, rfl, lk, hcd⟩ := F.ex
  exact .all (h kV doc pm an cdv ct)
theorem fun_mk {x qual : Str} {st : Stmt} {f : Addr} {oc : Value} {od an : Option Addr} {osl : Array (Option Value)} {kV doc pm cdv ct : Value} (l : K.lookup f = some ⟨oc, od, .func (PySem.W.fnOf x qual (defArgs st) (defBody st) (defScope st) .none kV doc pm an cdv ct), osl⟩)
    (c : PySem.W.codeIn K cdv qual = true) (k : PySem.W.keepIn K (.ref f) = true) : Fun K x qual st f (PySem.W.fnOf x qual (defArgs st) (defBody st) (defScope st) .none kV doc pm an cdv ct) := ⟨⟨oc, od, kV, doc, pm, an, cdv, ct, osl, rfl, l, c⟩, k⟩
end
theorem hu_of {A : Around} {k : Nat} (hr : Room k A) : A.units + 1 < cLine := Nat.lt_of_le_of_lt (Nat.add_le_add_left (by decide : 1 ≤ 64) _) hr.units
theorem small1000 {n : Nat} (h : n ≤ 1000) : n < sizeLine := Nat.lt_of_le_of_lt h (by decide)
section
variable {X : Cx}
theorem pv (i : Nat) {x : Str} {pos : Pos} (hN : X.N[i]? = some x := by rfl) (hv : Vis X.env.scope x := by first | exact Or.inl rfl | exact Or.inr (Or.inl rfl) | exact Or.inr (Or.inr rfl)) (hd : (x == ("__debug__" : Str)) = false := by decide)
    (hcd : (x == ("__classdict__" : Str)) = false := by decide) : PE X (.Name x pos) (tVar i) := pe_var hN hv hd hcd
end
theorem iteF {A B : Prop} (h : B) : if false = true then A else B := by
  rw [if_neg Bool.false_ne_true]
  exact h
theorem iteT {A B : Prop} (h : A) : if true = true then A else B := by
  rw [if_pos rfl]
  exact h
theorem ite2 {c A B : Prop} [Decidable c] (h1 : c → A) (h2 : ¬ c → B) : if c then A else B := by
  by_cases h : c
  · rw [if_pos h]
    exact h1 h
  · rw [if_neg h]
    exact h2 h
theorem iteNS {c A B : Prop} [Decidable c] (hc : c) (h : B) : if (!decide c) = true then A else B := by
  rw [decide_eq_true hc]
  exact iteF h
noncomputable def Same (H H' : Hp) : Prop := ∀ b o, H b = some o → H' b = some o
theorem Same.refl (H : Hp) : Same H H := fun _ _ h => h
theorem Same.trans {H H1 H2 : Hp} (a : Same H H1) (b : Same H1 H2) : Same H H2 := fun c o h => b c o (a c o h)
theorem Same.free {H H' : Hp} (e : Same H H') {l : Addr} (h : H' l = Option.none) : H l = Option.none := by
  cases q : H l with
  | none => rfl
  | some o =>
    rw [e l o q] at h
    cases h
theorem Same.seq {K : PySem.W.Frag} {H H' : Hp} {a : Addr} {xs : List V} (e : Same H H') (h : SqL K H a xs) : SqL K H' a xs := by
  rcases h with (h | ⟨o, h⟩) | h
  · exact .inl (.inl (e _ _ h))
  · exact .inl (.inr ⟨o, e _ _ h⟩)
  · exact .inr h
end L2

namespace Cart
inductive BT where
  | nil
  | node (l r : BT)
deriving DecidableEq
noncomputable def BT.size : BT → Nat
  | .nil => 0
  | .node l r => l.size + r.size + 1
noncomputable def BT.list : BT → Nat → Option Nat → List (Option Nat)
  | .nil, _, _ => []
  | .node l r, o, top => l.list o (some (o + l.size)) ++ top :: r.list (o + l.size + 1) (some (o + l.size))
theorem list_len : ∀ (t : BT) (o : Nat) (top : Option Nat), (t.list o top).length = t.size
  | .nil, _, _ => rfl
  | .node l r, o, top => by
    show (l.list o (some (o + l.size)) ++ top :: r.list (o + l.size + 1) (some (o + l.size))).length = l.size + r.size + 1
    rw [List.length_append, List.length_cons, list_len l, list_len r]
    (first | with_reducible assumption | lia | omega)
theorem list_mem : ∀ (t : BT) (o : Nat) (top x : Option Nat), x ∈ t.list o top → x = top ∨ ∃ q, x = some q ∧ o ≤ q ∧ q < o + t.size
  | .nil, _, _, _, h => by cases h
  | .node l r, o, top, x, h => by
    have hs : (BT.node l r).size = l.size + r.size + 1 := rfl
    rcases List.mem_append.mp h with h | h
    · rcases list_mem l _ _ _ h with h | ⟨q, h, h1, h2⟩
      · exact .inr ⟨_, h, by (first | with_reducible assumption | lia | omega), by (first | with_reducible assumption | lia | omega)⟩
      · exact .inr ⟨q, h, by (first | with_reducible assumption | lia | omega), by (first | with_reducible assumption | lia | omega)⟩
    · rcases List.mem_cons.mp h with h | h
      · exact .inl h
      · rcases list_mem r _ _ _ h with h | ⟨q, h, h1, h2⟩
        · exact .inr ⟨_, h, by (first | with_reducible assumption | lia | omega), by (first | with_reducible assumption | lia | omega)⟩
        · exact .inr ⟨q, h, by (first | with_reducible assumption | lia | omega), by (first | with_reducible assumption | lia | omega)⟩
noncomputable def Out (o n : Nat) (top : Option Nat) : Prop := ∀ q, top = some q → q < o ∨ o + n ≤ q
theorem Out.none {o n : Nat} : Out o n none := fun q h => by cases h
theorem list_root (l r : BT) (o : Nat) (top : Option Nat) : ((BT.node l r).list o top)[l.size]? = some top := by
  show (l.list o (some (o + l.size)) ++ top :: r.list (o + l.size + 1) (some (o + l.size)))[l.size]? = _
  rw [List.getElem?_append_right (by rw [list_len]; exact Nat.le_refl _), list_len, Nat.sub_self]
  rfl
theorem list_left (l r : BT) (o : Nat) (top : Option Nat) {i : Nat} (h : i < l.size) : ((BT.node l r).list o top)[i]? = (l.list o (some (o + l.size)))[i]? := by
  show (l.list o (some (o + l.size)) ++ top :: r.list (o + l.size + 1) (some (o + l.size)))[i]? = _
  rw [List.getElem?_append_left (by rw [list_len]; exact h)]
theorem list_right (l r : BT) (o : Nat) (top : Option Nat) (i : Nat) : ((BT.node l r).list o top)[l.size + 1 + i]? = (r.list (o + l.size + 1) (some (o + l.size)))[i]? := by
  show (l.list o (some (o + l.size)) ++ top :: r.list (o + l.size + 1) (some (o + l.size)))[l.size + 1 + i]? = _
  rw [List.getElem?_append_right (by rw [list_len]; (first | with_reducible assumption | lia | omega)), list_len]
  have e : l.size + 1 + i - l.size = i + 1 := by (first | with_reducible assumption | lia | omega)
  rw [e]
  rfl
theorem list_not_root (l r : BT) (o : Nat) (top : Option Nat) (hO : Out o (BT.node l r).size top) {i : Nat} (hi : i < l.size + r.size + 1) (hne : i ≠ l.size) : ((BT.node l r).list o top)[i]? ≠ some top := by
  intro h
  have hs : (BT.node l r).size = l.size + r.size + 1 := rfl
  rcases Nat.lt_or_ge i l.size with h1 | h1
  · rw [list_left l r o top h1] at h
    rcases list_mem _ _ _ _ (List.mem_of_getElem? h) with e | ⟨q, e, h2, h3⟩
    · rcases hO _ e with z | z <;> (first | with_reducible assumption | lia | omega)
    · rcases hO _ e with z | z <;> (first | with_reducible assumption | lia | omega)
  · have e : i = l.size + 1 + (i - l.size - 1) := by (first | with_reducible assumption | lia | omega)
    rw [e, list_right] at h
    rcases list_mem _ _ _ _ (List.mem_of_getElem? h) with e | ⟨q, e, h2, h3⟩
    · rcases hO _ e with z | z <;> (first | with_reducible assumption | lia | omega)
    · rcases hO _ e with z | z <;> (first | with_reducible assumption | lia | omega)
theorem list_inj : ∀ (t t' : BT) (o : Nat) (top : Option Nat), Out o t.size top → t.list o top = t'.list o top → t = t'
  | .nil, .nil, _, _, _, _ => rfl
  | .nil, .node l r, o, top, _, h => by
    have := congrArg List.length h
    rw [list_len, list_len] at this
    simp [BT.size] at this
  | .node l r, .nil, o, top, _, h => by
    have := congrArg List.length h
    rw [list_len, list_len] at this
    simp [BT.size] at this
  | .node l r, .node l' r', o, top, hO, h => by
    have hl := congrArg List.length h
    rw [list_len, list_len] at hl
    have hs : (BT.node l r).size = l.size + r.size + 1 := rfl
    have hs' : (BT.node l' r').size = l'.size + r'.size + 1 := rfl
    have hO' : Out o (BT.node l' r').size top := by rw [← hl]; exact hO
    have e : l.size = l'.size := by
      by_cases e : l.size = l'.size
      · exact e
      · exact absurd (by rw [← h]; exact list_root l r o top) (list_not_root l' r' o top hO' (by (first | with_reducible assumption | lia | omega)) e)
    have h' : l.list o (some (o + l.size)) ++ top :: r.list (o + l.size + 1) (some (o + l.size)) = l'.list o (some (o + l'.size)) ++ top :: r'.list (o + l'.size + 1) (some (o + l'.size)) := h
    rw [← e] at h'
    obtain ⟨h1, h2⟩ := List.append_inj h' (by rw [list_len, list_len]; exact e)
    have h3 := (List.cons.inj h2).2
    have e1 := list_inj l l' o _ (fun q z => by cases z; right; (first | with_reducible assumption | lia | omega)) h1
    have e2 := list_inj r r' (o + l.size + 1) _ (fun q z => by cases z; left; (first | with_reducible assumption | lia | omega)) h3
    rw [e1, e2]
noncomputable def Fits (g : Nat → Int) : Nat → BT → Prop
  | _, .nil => True
  | f, .node l r => (∀ j, f ≤ j → j < f + l.size → g (f + l.size) < g j) ∧ (∀ j, f + l.size < j → j ≤ f + l.size + r.size → g (f + l.size) ≤ g j) ∧ Fits g f l ∧ Fits g (f + l.size + 1) r
theorem Fits.one {g : Nat → Int} : ∀ (t t' : BT) (f : Nat), Fits g f t → Fits g f t' → t.size = t'.size → t = t'
  | .nil, .nil, _, _, _, _ => rfl
  | .nil, .node _ _, _, _, _, h => by simp [BT.size] at h
  | .node _ _, .nil, _, _, _, h => by simp [BT.size] at h
  | .node l r, .node l' r', f, a, b, h => by
    obtain ⟨a1, a2, a3, a4⟩ := a
    obtain ⟨b1, b2, b3, b4⟩ := b
    have hs : l.size + r.size + 1 = l'.size + r'.size + 1 := h
    have e : l.size = l'.size := by
      rcases Nat.lt_trichotomy l.size l'.size with z | z | z
      · have := b1 (f + l.size) (by (first | with_reducible assumption | lia | omega)) (by (first | with_reducible assumption | lia | omega))
        have := a2 (f + l'.size) (by (first | with_reducible assumption | lia | omega)) (by (first | with_reducible assumption | lia | omega))
        (first | with_reducible assumption | lia | omega)
      · exact z
      · have := a1 (f + l'.size) (by (first | with_reducible assumption | lia | omega)) (by (first | with_reducible assumption | lia | omega))
        have := b2 (f + l.size) (by (first | with_reducible assumption | lia | omega)) (by (first | with_reducible assumption | lia | omega))
        (first | with_reducible assumption | lia | omega)
    rw [← e] at b4
    rw [Fits.one l l' f a3 b3 e, Fits.one r r' (f + l.size + 1) a4 b4 (by (first | with_reducible assumption | lia | omega))]
noncomputable def hd (g : Nat → Int) (f : Nat) : Nat → Nat
  | 0 => f
  | n + 1 => if g (f + n) < g (hd g f n) then f + n else hd g f n
structure Head (g : Nat → Int) (f n h : Nat) : Prop where
  lo : f ≤ h
  hi : h < f + n
  lt : ∀ j, f ≤ j → j < h → g h < g j
  le : ∀ j, h < j → j < f + n → g h ≤ g j
theorem hd_head (g : Nat → Int) (f : Nat) : ∀ n, Head g f (n + 1) (hd g f (n + 1))
  | 0 => by
    have e : hd g f 1 = f := by
      show (if g (f + 0) < g f then f + 0 else f) = f
      split <;> (first | with_reducible assumption | lia | omega)
    rw [e]
    exact ⟨Nat.le_refl _, by (first | with_reducible assumption | lia | omega), fun j h1 h2 => by (first | with_reducible assumption | lia | omega), fun j h1 h2 => by (first | with_reducible assumption | lia | omega)⟩
  | n + 1 => by
    have ih := hd_head g f n
    have e : hd g f (n + 1 + 1) = if g (f + (n + 1)) < g (hd g f (n + 1)) then f + (n + 1) else hd g f (n + 1) := rfl
    rw [e]
    by_cases c : g (f + (n + 1)) < g (hd g f (n + 1))
    · rw [if_pos c]
      refine ⟨by (first | with_reducible assumption | lia | omega), by (first | with_reducible assumption | lia | omega), fun j h1 h2 => ?_, fun j h1 h2 => by (first | with_reducible assumption | lia | omega)⟩
      rcases Nat.lt_trichotomy j (hd g f (n + 1)) with z | z | z
      · have := ih.lt j h1 z; (first | with_reducible assumption | lia | omega)
      · rw [z]; exact c
      · have := ih.le j z (by (first | with_reducible assumption | lia | omega)); (first | with_reducible assumption | lia | omega)
    · rw [if_neg c]
      refine ⟨ih.lo, by have := ih.hi; (first | with_reducible assumption | lia | omega), ih.lt, fun j h1 h2 => ?_⟩
      by_cases z : j = f + (n + 1)
      · subst z; (first | with_reducible assumption | lia | omega)
      · exact ih.le j h1 (by (first | with_reducible assumption | lia | omega))
theorem fits_node {g : Nat → Int} {f h : Nat} {l r : BT} (H : Head g f (l.size + r.size + 1) h) (hl : h = f + l.size) (a : Fits g f l) (b : Fits g (h + 1) r) : Fits g f (.node l r) := by
  subst hl
  exact ⟨fun j h1 h2 => H.lt j h1 h2, fun j h1 h2 => H.le j h1 (by (first | with_reducible assumption | lia | omega)), a, b⟩
theorem fits_ex (g : Nat → Int) : ∀ (n f : Nat), ∃ t : BT, t.size = n ∧ Fits g f t := by
  intro n
  induction n using Nat.strongRecOn with
  | ind n ih =>
    intro f
    cases n with
    | zero => exact ⟨.nil, rfl, trivial⟩
    | succ n =>
      have H := hd_head g f n
      have h1 := H.lo
      have h2 := H.hi
      obtain ⟨l, l1, l2⟩ := ih (hd g f (n + 1) - f) (by (first | with_reducible assumption | lia | omega)) f
      obtain ⟨r, r1, r2⟩ := ih (f + n - hd g f (n + 1)) (by (first | with_reducible assumption | lia | omega)) (hd g f (n + 1) + 1)
      refine ⟨.node l r, by show l.size + r.size + 1 = _; (first | with_reducible assumption | lia | omega), fits_node (h := hd g f (n + 1)) ?_ (by (first | with_reducible assumption | lia | omega)) l2 r2⟩
      have e : l.size + r.size + 1 = n + 1 := by (first | with_reducible assumption | lia | omega)
      rw [e]
      exact H
noncomputable def tree (g : Nat → Int) (f n : Nat) : BT := (fits_ex g n f).choose
theorem tree_size (g : Nat → Int) (f n : Nat) : (tree g f n).size = n := (fits_ex g n f).choose_spec.1
theorem tree_fits (g : Nat → Int) (f n : Nat) : Fits g f (tree g f n) := (fits_ex g n f).choose_spec.2
theorem tree_eq {g : Nat → Int} {f n : Nat} {t : BT} (h : Fits g f t) (hs : t.size = n) : tree g f n = t := Fits.one _ _ f (tree_fits g f n) h (by rw [tree_size, hs])
theorem tree_zero (g : Nat → Int) (f : Nat) : tree g f 0 = .nil := tree_eq trivial rfl
theorem tree_node {g : Nat → Int} {f n h : Nat} (H : Head g f n h) : tree g f n = .node (tree g f (h - f)) (tree g (h + 1) (f + n - (h + 1))) := by
  have h1 := H.lo
  have h2 := H.hi
  refine tree_eq (fits_node (h := h) ?_ (by rw [tree_size]; (first | with_reducible assumption | lia | omega)) (tree_fits _ _ _) (tree_fits _ _ _)) ?_
  · rw [tree_size, tree_size]
    have e : h - f + (f + n - (h + 1)) + 1 = n := by (first | with_reducible assumption | lia | omega)
    rw [e]
    exact H
  · show (tree g f (h - f)).size + (tree g (h + 1) (f + n - (h + 1))).size + 1 = n
    rw [tree_size, tree_size]
    (first | with_reducible assumption | lia | omega)
noncomputable def trees (g : Nat → Int) (f n : Nat) (top : Option Nat) : List (Option Nat) := (tree g f n).list f top
theorem trees_len (g : Nat → Int) (f n : Nat) (top : Option Nat) : (trees g f n top).length = n := by
  unfold trees
  rw [list_len, tree_size]
theorem trees_zero (g : Nat → Int) (f : Nat) (top : Option Nat) : trees g f 0 top = [] := by
  unfold trees
  rw [tree_zero]
  rfl
theorem trees_node {g : Nat → Int} {f n h : Nat} (top : Option Nat) (H : Head g f n h) : trees g f n top = trees g f (h - f) (some h) ++ top :: trees g (h + 1) (f + n - (h + 1)) (some h) := by
  have h1 := H.lo
  unfold trees
  rw [tree_node H]
  have e : f + (tree g f (h - f)).size = h := by rw [tree_size]; (first | with_reducible assumption | lia | omega)
  show (tree g f (h - f)).list f (some (f + (tree g f (h - f)).size)) ++ top :: (tree g (h + 1) (f + n - (h + 1))).list (f + (tree g f (h - f)).size + 1) (some (f + (tree g f (h - f)).size)) = _
  rw [e]
end Cart

namespace Cart
end Cart

namespace Cart
noncomputable def orders : Nat → List (List Nat)
  | 0 => [[]]
  | k + 1 => (orders k).flatMap fun row => (List.range (k + 1)).map fun at_ => row.take at_ ++ k :: row.drop at_
theorem orders_perm : ∀ (n : Nat) (o : List Nat), o ∈ orders n → o.Perm (List.range n)
  | 0, o, h => by
    have : o = [] := by simpa [orders] using h
    subst this
    exact .refl _
  | n + 1, o, h => by
    obtain ⟨row, h1, h2⟩ := List.mem_flatMap.mp h
    obtain ⟨at_, h3, rfl⟩ := List.mem_map.mp h2
    have p := orders_perm n row h1
    have q : (row.take at_ ++ n :: row.drop at_).Perm (n :: (row.take at_ ++ row.drop at_)) := List.perm_middle
    rw [List.take_append_drop] at q
    rw [List.range_succ]
    exact q.trans ((List.Perm.cons n p).trans (List.perm_append_singleton n _).symm)
theorem perm_orders : ∀ (n : Nat) (o : List Nat), o.Perm (List.range n) → o ∈ orders n
  | 0, o, h => by
    have : o = [] := by simpa using h
    subst this
    simp [orders]
  | n + 1, o, h => by
    have hn : n ∈ o := h.mem_iff.mpr (List.mem_range.mpr (by (first | with_reducible assumption | lia | omega)))
    obtain ⟨a, b, rfl⟩ := List.append_of_mem hn
    have q : (a ++ n :: b).Perm (n :: (a ++ b)) := List.perm_middle
    have q2 : (n :: (a ++ b)).Perm (n :: List.range n) := by
      rw [List.range_succ] at h
      exact q.symm.trans (h.trans (List.perm_append_singleton n _))
    have q3 : (a ++ b).Perm (List.range n) := List.Perm.cons_inv q2
    have hl := q3.length_eq
    rw [List.length_append, List.length_range] at hl
    refine List.mem_flatMap.mpr ⟨a ++ b, perm_orders n _ q3, List.mem_map.mpr ⟨a.length, List.mem_range.mpr (by (first | with_reducible assumption | lia | omega)), ?_⟩⟩
    rw [List.take_left, List.drop_left]
theorem ins_inj {n i j : Nat} {a b : List Nat} (ha : n ∉ a) (hb : n ∉ b) (hi : i ≤ a.length) (hj : j ≤ b.length) (e : a.take i ++ n :: a.drop i = b.take j ++ n :: b.drop j) : a = b ∧ i = j := by
  have i1 : (a.take i ++ n :: a.drop i).idxOf n = i := by
    rw [List.idxOf_append, if_neg (fun z => ha (List.mem_of_mem_take z)), List.idxOf_cons_self, List.length_take]
    (first | with_reducible assumption | lia | omega)
  have i2 : (b.take j ++ n :: b.drop j).idxOf n = j := by
    rw [List.idxOf_append, if_neg (fun z => hb (List.mem_of_mem_take z)), List.idxOf_cons_self, List.length_take]
    (first | with_reducible assumption | lia | omega)
  have eij : i = j := by rw [← i1, e, i2]
  subst eij
  obtain ⟨e1, e2⟩ := List.append_inj e (by
    have := congrArg List.length e
    rw [List.length_append, List.length_append, List.length_cons, List.length_cons, List.length_take, List.length_take, List.length_drop, List.length_drop] at this
    rw [List.length_take, List.length_take]
    (first | with_reducible assumption | lia | omega))
  have e3 := (List.cons.inj e2).2
  refine ⟨?_, rfl⟩
  rw [← List.take_append_drop i a, e1, e3, List.take_append_drop]
theorem orders_nodup : ∀ n, (orders n).Nodup
  | 0 => by simp [orders]
  | n + 1 => by
    have fact : ∀ row ∈ orders n, n ∉ row ∧ row.length = n := fun row h => by
      have p := orders_perm n row h
      refine ⟨fun z => ?_, by rw [p.length_eq, List.length_range]⟩
      have := List.mem_range.mp (p.mem_iff.mp z)
      (first | with_reducible assumption | lia | omega)
    show ((orders n).flatMap _).Nodup
    unfold List.Nodup
    rw [List.pairwise_flatMap]
    refine ⟨fun row hr => ?_, ?_⟩
    · obtain ⟨f1, f2⟩ := fact row hr
      rw [List.pairwise_map]
      refine List.Pairwise.imp_of_mem (fun {i j} hi hj hij e => ?_) List.nodup_range
      have hi' := List.mem_range.mp hi
      have hj' := List.mem_range.mp hj
      exact hij (ins_inj f1 f1 (by (first | with_reducible assumption | lia | omega)) (by (first | with_reducible assumption | lia | omega)) e).2
    · refine List.Pairwise.imp_of_mem (fun {a b} ha hb hab => ?_) (orders_nodup n)
      obtain ⟨f1, f2⟩ := fact a ha
      obtain ⟨g1, g2⟩ := fact b hb
      intro x hx y hy e
      obtain ⟨i, hi, rfl⟩ := List.mem_map.mp hx
      obtain ⟨j, hj, rfl⟩ := List.mem_map.mp hy
      have hi' := List.mem_range.mp hi
      have hj' := List.mem_range.mp hj
      exact hab (ins_inj f1 g1 (by (first | with_reducible assumption | lia | omega)) (by (first | with_reducible assumption | lia | omega)) e).1
noncomputable def fact : Nat → Nat
  | 0 => 1
  | n + 1 => (n + 1) * fact n
theorem fact_pos : ∀ n, 0 < fact n
  | 0 => Nat.one_pos
  | n + 1 => Nat.mul_pos (Nat.succ_pos _) (fact_pos n)
noncomputable def hooks : BT → Nat
  | .nil => 1
  | .node l r => (l.size + r.size + 1) * (hooks l * hooks r)
theorem hooks_pos : ∀ t, 0 < hooks t
  | .nil => Nat.one_pos
  | .node l r => Nat.mul_pos (Nat.succ_pos _) (Nat.mul_pos (hooks_pos l) (hooks_pos r))
noncomputable def choose : Nat → Nat → Nat
  | _, 0 => 1
  | 0, _ + 1 => 0
  | n + 1, k + 1 => choose n k + choose n (k + 1)
theorem choose_gt : ∀ {n k : Nat}, n < k → choose n k = 0
  | 0, k + 1, _ => rfl
  | n + 1, k + 1, h => by
    show choose n k + choose n (k + 1) = 0
    rw [choose_gt (by (first | with_reducible assumption | lia | omega)), choose_gt (by (first | with_reducible assumption | lia | omega))]
theorem choose_self : ∀ n, choose n n = 1
  | 0 => rfl
  | n + 1 => by
    show choose n n + choose n (n + 1) = 1
    rw [choose_self n, choose_gt (by (first | with_reducible assumption | lia | omega))]
theorem choose_fact : ∀ (a b : Nat), choose (a + b) a * (fact a * fact b) = fact (a + b) := by
  intro a b
  generalize hn : a + b = n
  induction n generalizing a b with
  | zero =>
    have ha : a = 0 := by (first | with_reducible assumption | lia | omega)
    have hb : b = 0 := by (first | with_reducible assumption | lia | omega)
    subst ha hb
    rfl
  | succ n ih =>
    cases a with
    | zero =>
      have hb : b = n + 1 := by (first | with_reducible assumption | lia | omega)
      subst hb
      show 1 * (1 * fact (n + 1)) = fact (n + 1)
      (first | with_reducible assumption | lia | omega)
    | succ a =>
      cases b with
      | zero =>
        have ha : a = n := by (first | with_reducible assumption | lia | omega)
        subst ha
        rw [choose_self]
        show 1 * (fact (a + 1) * 1) = fact (a + 1)
        (first | with_reducible assumption | lia | omega)
      | succ b =>
        have h1 := ih a (b + 1) (by (first | with_reducible assumption | lia | omega))
        have h2 := ih (a + 1) b (by (first | with_reducible assumption | lia | omega))
        show (choose n a + choose n (a + 1)) * (((a + 1) * fact a) * ((b + 1) * fact b)) = (n + 1) * fact n
        have h1' : choose n a * (fact a * ((b + 1) * fact b)) = fact n := h1
        have h2' : choose n (a + 1) * (((a + 1) * fact a) * fact b) = fact n := h2
        have e1 : choose n a * (((a + 1) * fact a) * ((b + 1) * fact b)) = (a + 1) * fact n := by
          rw [← h1']; ac_rfl
        have e2 : choose n (a + 1) * (((a + 1) * fact a) * ((b + 1) * fact b)) = (b + 1) * fact n := by
          rw [← h2']; ac_rfl
        rw [Nat.add_mul, e1, e2, ← Nat.add_mul]
        congr 1
noncomputable def many : BT → Nat
  | .nil => 1
  | .node l r => choose (l.size + r.size) l.size * (many l * many r)
theorem many_hooks : ∀ t, many t * hooks t = fact t.size
  | .nil => rfl
  | .node l r => by
    show choose (l.size + r.size) l.size * (many l * many r) * ((l.size + r.size + 1) * (hooks l * hooks r)) = (l.size + r.size + 1) * fact (l.size + r.size)
    rw [← choose_fact l.size r.size, ← many_hooks l, ← many_hooks r]
    ac_rfl
end Cart

namespace Cart
end Cart

namespace Cart
end Cart

namespace Cart
end Cart

namespace Cart
end Cart

namespace Cart
theorem choose_zero (n : Nat) : choose n 0 = 1 := by cases n <;> rfl
theorem choose_step (n k : Nat) : choose (n + 1) (k + 1) = choose n k + choose n (k + 1) := rfl
noncomputable def part : List Nat → Nat → Nat → List Nat × List Nat
  | [], _, _ => ([], [])
  | e :: E, a, k => if k < choose E.length a then ((part E a k).1, e :: (part E a k).2) else (e :: (part E (a - 1) (k - choose E.length a)).1, (part E (a - 1) (k - choose E.length a)).2)
noncomputable def pnum : List Nat → List Nat → Nat → Nat
  | [], _, _ => 0
  | e :: E, S, a => if e ∈ S then choose E.length a + pnum E S (a - 1) else pnum E S a
structure Parted (E : List Nat) (a : Nat) (x y : List Nat) : Prop where
  len : x.length = a
  perm : (x ++ y).Perm E
  sx : x.Sublist E
  sy : y.Sublist E
theorem part_ok : ∀ (E : List Nat) (a k : Nat), k < choose E.length a → Parted E a (part E a k).1 (part E a k).2
  | [], a, k, h => by
    cases a with
    | zero => exact ⟨rfl, .refl _, .slnil, .slnil⟩
    | succ a => exact absurd h (Nat.not_lt_zero _)
  | e :: E, a, k, h => by
    by_cases c : k < choose E.length a
    · have ih := part_ok E a k c
      rw [part, if_pos c]
      exact ⟨ih.len, List.perm_middle.trans (.cons e ih.perm), .cons _ ih.sx, .cons₂ _ ih.sy⟩
    · rw [part, if_neg c]
      cases a with
      | zero =>
        rw [choose_zero] at c h
        exact absurd h c
      | succ a =>
        have h' : k < choose E.length a + choose E.length (a + 1) := h
        have ih := part_ok E a (k - choose E.length (a + 1)) (by (first | with_reducible assumption | lia | omega))
        exact ⟨congrArg (· + 1) ih.len, .cons e ih.perm, .cons₂ _ ih.sx, .cons _ ih.sy⟩
theorem pnum_congr : ∀ (E : List Nat) {S S' : List Nat} (a : Nat), (∀ z ∈ E, z ∈ S ↔ z ∈ S') → pnum E S a = pnum E S' a
  | [], _, _, _, _ => rfl
  | e :: E, S, S', a, h => by
    have h' : ∀ z ∈ E, z ∈ S ↔ z ∈ S' := fun z hz => h z (List.mem_cons_of_mem _ hz)
    have he := h e (List.mem_cons_self ..)
    by_cases c : e ∈ S
    · rw [pnum, pnum, if_pos c, if_pos (he.mp c), pnum_congr E (a - 1) h']
    · rw [pnum, pnum, if_neg c, if_neg (fun z => c (he.mpr z)), pnum_congr E a h']
theorem pnum_part : ∀ (E : List Nat) (a k : Nat), E.Nodup → k < choose E.length a → pnum E (part E a k).1 a = k
  | [], a, k, _, h => by
    cases a with
    | zero =>
      have h' : k < 1 := h
      show 0 = k
      (first | with_reducible assumption | lia | omega)
    | succ a => exact absurd h (Nat.not_lt_zero _)
  | e :: E, a, k, hn, h => by
    obtain ⟨he, hn'⟩ := List.nodup_cons.mp hn
    by_cases c : k < choose E.length a
    · have ok := part_ok E a k c
      rw [part, if_pos c]
      show pnum (e :: E) (part E a k).1 a = k
      rw [pnum, if_neg (fun z => he (ok.sx.subset z))]
      exact pnum_part E a k hn' c
    · rw [part, if_neg c]
      cases a with
      | zero =>
        rw [choose_zero] at c h
        exact absurd h c
      | succ a =>
        have h' : k < choose E.length a + choose E.length (a + 1) := h
        show pnum (e :: E) (e :: (part E a (k - choose E.length (a + 1))).1) (a + 1) = k
        rw [pnum, if_pos (List.mem_cons_self ..)]
        have ih := pnum_part E a (k - choose E.length (a + 1)) hn' (by (first | with_reducible assumption | lia | omega))
        have e1 : pnum E (e :: (part E a (k - choose E.length (a + 1))).1) (a + 1 - 1) = k - choose E.length (a + 1) := by
          rw [← ih]
          show pnum E _ a = _
          rw [ih]
          refine Eq.trans (pnum_congr E a fun z hz => ?_) ih
          rw [List.mem_cons]
          exact ⟨fun q => q.elim (fun q => absurd (q ▸ hz) he) id, .inr⟩
        rw [e1]
        (first | with_reducible assumption | lia | omega)
theorem choose_mono (n a : Nat) : choose n a ≤ choose (n + 1) a := by
  cases a with
  | zero => rw [choose_zero, choose_zero]; exact Nat.le_refl _
  | succ a => rw [choose_step]; (first | with_reducible assumption | lia | omega)
theorem part_pnum : ∀ (E S : List Nat) (a : Nat), a = (E.filter (· ∈ S)).length → pnum E S a < choose E.length a ∧ part E a (pnum E S a) = (E.filter (· ∈ S), E.filter (· ∉ S))
  | [], S, a, h => by
    subst h
    exact ⟨Nat.one_pos, rfl⟩
  | e :: E, S, a, h => by
    by_cases c : e ∈ S
    · rw [List.filter_cons, if_pos (by simpa using c)] at h
      cases a with
      | zero => exact absurd h.symm (Nat.succ_ne_zero _)
      | succ a =>
        have h' : a = (E.filter (· ∈ S)).length := Nat.succ.inj h
        obtain ⟨i1, i2⟩ := part_pnum E S a h'
        have e1 : pnum (e :: E) S (a + 1) = choose E.length (a + 1) + pnum E S a := by rw [pnum, if_pos c]; rfl
        rw [e1]
        refine ⟨?_, ?_⟩
        · show _ < choose E.length a + choose E.length (a + 1)
          (first | with_reducible assumption | lia | omega)
        · rw [part, if_neg (by (first | with_reducible assumption | lia | omega)), Nat.add_sub_cancel_left, Nat.add_sub_cancel, i2, List.filter_cons, if_pos (by simpa using c), List.filter_cons, if_neg (by simpa using c)]
    · rw [List.filter_cons, if_neg (by simpa using c)] at h
      obtain ⟨i1, i2⟩ := part_pnum E S a h
      have e1 : pnum (e :: E) S a = pnum E S a := by rw [pnum, if_neg c]
      rw [e1]
      refine ⟨Nat.lt_of_lt_of_le i1 (choose_mono _ _), ?_⟩
      rw [part, if_pos i1, i2, List.filter_cons, if_neg (by simpa using c), List.filter_cons, if_pos (by simpa using c)]
theorem filter_sub {x E : List Nat} (h : x.Sublist E) (hn : E.Nodup) : E.filter (· ∈ x) = x := by
  induction h with
  | slnil => rfl
  | @cons l1 l2 a h ih =>
    obtain ⟨ha, hn'⟩ := List.nodup_cons.mp hn
    rw [List.filter_cons, if_neg (by simpa using fun z => ha (h.subset z))]
    exact ih hn'
  | @cons_cons l1 l2 a h ih =>
    obtain ⟨ha, hn'⟩ := List.nodup_cons.mp hn
    rw [List.filter_cons, if_pos (by simp)]
    congr 1
    refine Eq.trans (List.filter_congr fun z hz => ?_) (ih hn')
    have : z ≠ a := fun q => ha (q ▸ hz)
    simp [this]
theorem parted_filter {E x y : List Nat} {a : Nat} (p : Parted E a x y) (hn : E.Nodup) : E.filter (· ∈ x) = x ∧ E.filter (· ∉ x) = y := by
  refine ⟨filter_sub p.sx hn, ?_⟩
  refine Eq.trans (List.filter_congr fun z hz => ?_) (filter_sub p.sy hn)
  have nd : (x ++ y).Nodup := p.perm.nodup_iff.mpr hn
  have hm : z ∈ x ∨ z ∈ y := List.mem_append.mp (p.perm.mem_iff.mpr hz)
  have hd := (List.nodup_append.mp nd).2.2
  by_cases c : z ∈ x
  · have : z ∉ y := fun q => hd z c z q rfl
    simp [c, this]
  · simp [c, hm.resolve_left c]
noncomputable def ord : BT → List Nat → Nat → List Nat
  | .nil, _, _ => []
  | .node l r, E, k => ord l (part E.tail l.size (k / (many l * many r))).1 (k / many r % many l) ++ E.headD 0 :: ord r (part E.tail l.size (k / (many l * many r))).2 (k % many r)
noncomputable def onum : BT → List Nat → List Nat → Nat
  | .nil, _, _ => 0
  | .node l r, E, o => (pnum E.tail (o.take l.size) l.size * many l + onum l (E.tail.filter (· ∈ o.take l.size)) (o.take l.size)) * many r + onum r (E.tail.filter (· ∉ o.take l.size)) (o.drop (l.size + 1))
noncomputable def FitL : BT → List Nat → Prop
  | .nil, o => o = []
  | .node l r, o => ∃ x e y, o = x ++ e :: y ∧ x.length = l.size ∧ (∀ z ∈ x, e < z) ∧ (∀ z ∈ y, e ≤ z) ∧ FitL l x ∧ FitL r y
theorem FitL.len : ∀ {t : BT} {o : List Nat}, FitL t o → o.length = t.size
  | .nil, o, h => by
    have h' : o = [] := h
    rw [h']; rfl
  | .node l r, o, ⟨x, e, y, h1, h2, _, _, h5, h6⟩ => by
    have := h6.len
    rw [h1, List.length_append, List.length_cons]
    show _ = l.size + r.size + 1
    (first | with_reducible assumption | lia | omega)
theorem many_pos' (t : BT) : 0 < many t := by
  rcases Nat.eq_zero_or_pos (many t) with z | z
  · have h := many_hooks t
    rw [z, Nat.zero_mul] at h
    have := fact_pos t.size
    (first | with_reducible assumption | lia | omega)
  · exact z
theorem sort_nd {E : List Nat} (h : E.Pairwise (· < ·)) : E.Nodup := h.imp fun {a b} (q : a < b) => Nat.ne_of_lt q
theorem ord_ok : ∀ (t : BT) (E : List Nat) (k : Nat), E.Pairwise (· < ·) → E.length = t.size → k < many t → (ord t E k).Perm E ∧ FitL t (ord t E k) ∧ onum t E (ord t E k) = k
  | .nil, E, k, _, hl, hk => by
    have hE : E = [] := List.length_eq_zero_iff.mp hl
    subst hE
    have hk' : k < 1 := hk
    exact ⟨.refl _, rfl, by show 0 = k; (first | with_reducible assumption | lia | omega)⟩
  | .node l r, [], k, _, hl, _ => by
    have : 0 = l.size + r.size + 1 := hl
    (first | with_reducible assumption | lia | omega)
  | .node l r, e :: E, k, hs, hl, hk => by
    have hl' : E.length = l.size + r.size := Nat.succ.inj hl
    obtain ⟨hmin, hs'⟩ := List.pairwise_cons.mp hs
    have nd := sort_nd hs'
    have pl := many_pos' l
    have pr := many_pos' r
    have hk' : k < choose (l.size + r.size) l.size * (many l * many r) := hk
    have hkp : k / (many l * many r) < choose E.length l.size := by
      rw [hl', Nat.div_lt_iff_lt_mul (Nat.mul_pos pl pr)]
      exact hk'
    have pt := part_ok E l.size _ hkp
    have pn := pnum_part E l.size _ nd hkp
    show (ord l (part E l.size (k / (many l * many r))).1 (k / many r % many l) ++ e :: ord r (part E l.size (k / (many l * many r))).2 (k % many r)).Perm (e :: E) ∧ FitL (.node l r) (ord l (part E l.size (k / (many l * many r))).1 (k / many r % many l) ++ e :: ord r (part E l.size (k / (many l * many r))).2 (k % many r)) ∧
      onum (.node l r) (e :: E) (ord l (part E l.size (k / (many l * many r))).1 (k / many r % many l) ++ e :: ord r (part E l.size (k / (many l * many r))).2 (k % many r)) = k
    generalize (part E l.size (k / (many l * many r))).1 = x at pt pn ⊢
    generalize (part E l.size (k / (many l * many r))).2 = y at pt ⊢
    obtain ⟨fx, fy⟩ := parted_filter pt nd
    have hyl : y.length = r.size := by
      have := pt.perm.length_eq
      rw [List.length_append, pt.len] at this
      (first | with_reducible assumption | lia | omega)
    obtain ⟨a1, a2, a3⟩ := ord_ok l x (k / many r % many l) (hs'.sublist pt.sx) pt.len (Nat.mod_lt _ pl)
    obtain ⟨b1, b2, b3⟩ := ord_ok r y (k % many r) (hs'.sublist pt.sy) hyl (Nat.mod_lt _ pr)
    generalize ord l x (k / many r % many l) = o1 at a1 a2 a3 ⊢
    generalize ord r y (k % many r) = o2 at b1 b2 b3 ⊢
    have hl1 : o1.length = l.size := a2.len
    refine ⟨List.perm_middle.trans (.cons e ((a1.append b1).trans pt.perm)), ⟨o1, e, o2, rfl, hl1, fun z hz => hmin z (pt.sx.subset (a1.mem_iff.mp hz)), fun z hz => Nat.le_of_lt (hmin z (pt.sy.subset (b1.mem_iff.mp hz))), a2, b2⟩, ?_⟩
    have t1 : (o1 ++ e :: o2).take l.size = o1 := by rw [← hl1]; exact List.take_left ..
    have t2 : (o1 ++ e :: o2).drop (l.size + 1) = o2 := by
      have : o1 ++ e :: o2 = (o1 ++ [e]) ++ o2 := by rw [List.append_assoc]; rfl
      rw [this, ← hl1, show o1.length + 1 = (o1 ++ [e]).length by rw [List.length_append]; rfl]
      exact List.drop_left ..
    show (pnum E ((o1 ++ e :: o2).take l.size) l.size * many l + onum l (E.filter (· ∈ (o1 ++ e :: o2).take l.size)) ((o1 ++ e :: o2).take l.size)) * many r + onum r (E.filter (· ∉ (o1 ++ e :: o2).take l.size)) ((o1 ++ e :: o2).drop (l.size + 1)) = k
    rw [t1, t2]
    have m1 : ∀ z, z ∈ o1 ↔ z ∈ x := fun z => a1.mem_iff
    have g1 : E.filter (· ∈ o1) = x := by
      refine Eq.trans (List.filter_congr fun z _ => ?_) fx
      simp [m1 z]
    have g2 : E.filter (· ∉ o1) = y := by
      refine Eq.trans (List.filter_congr fun z _ => ?_) fy
      simp [m1 z]
    rw [g1, g2, a3, b3, pnum_congr E l.size fun z _ => m1 z, pn]
    have d1 : k / (many l * many r) = k / many r / many l := by rw [Nat.div_div_eq_div_mul, Nat.mul_comm]
    have d2 := Nat.div_add_mod (k / many r) (many l)
    have d3 := Nat.div_add_mod k (many r)
    rw [d1, Nat.mul_comm (k / many r / many l), d2, Nat.mul_comm]
    exact d3
theorem perm_filter_in {x y E : List Nat} (h : (x ++ y).Perm E) (hn : E.Nodup) : (E.filter (· ∈ x)).Perm x ∧ (E.filter (· ∉ x)).Perm y := by
  have nd : (x ++ y).Nodup := h.nodup_iff.mpr hn
  have hd := (List.nodup_append.mp nd).2.2
  refine ⟨?_, ?_⟩
  · refine (h.filter (· ∈ x)).symm.trans ?_
    rw [List.filter_append, List.filter_eq_self.mpr (fun z hz => by simpa using hz), List.filter_eq_nil_iff.mpr (fun z hz => by simpa using fun q => hd z q z hz rfl), List.append_nil]
  · refine (h.filter (· ∉ x)).symm.trans ?_
    rw [List.filter_append, List.filter_eq_nil_iff.mpr (fun z hz => by simpa using hz), List.filter_eq_self.mpr (fun z hz => by simpa using fun q => hd z q z hz rfl), List.nil_append]
theorem onum_ok : ∀ (t : BT) (E o : List Nat), E.Pairwise (· < ·) → o.Perm E → FitL t o → onum t E o < many t ∧ ord t E (onum t E o) = o
  | .nil, E, o, _, _, h => by
    have h' : o = [] := h
    subst h'
    exact ⟨Nat.one_pos, rfl⟩
  | .node l r, [], o, _, hp, h => by
    have := h.len
    rw [hp.length_eq] at this
    have : 0 = l.size + r.size + 1 := this
    (first | with_reducible assumption | lia | omega)
  | .node l r, e0 :: E, o, hs, hp, h => by
    obtain ⟨x, e, y, rfl, hx, hlt, hle, fx, fy⟩ := h
    obtain ⟨hmin, hs'⟩ := List.pairwise_cons.mp hs
    have nd := sort_nd hs'
    have ee : e = e0 := by
      have m1 : e ∈ e0 :: E := hp.mem_iff.mp (List.mem_append_right _ (List.mem_cons_self ..))
      have m2 : e0 ∈ x ++ e :: y := hp.mem_iff.mpr (List.mem_cons_self ..)
      have le1 : e0 ≤ e := by
        rcases List.mem_cons.mp m1 with q | q
        · exact Nat.le_of_eq q.symm
        · exact Nat.le_of_lt (hmin e q)
      rcases List.mem_append.mp m2 with q | q
      · have := hlt e0 q; (first | with_reducible assumption | lia | omega)
      · rcases List.mem_cons.mp q with q | q
        · exact q.symm
        · have := hle e0 q; (first | with_reducible assumption | lia | omega)
    subst ee
    have hp' : (x ++ y).Perm E := List.Perm.cons_inv (List.perm_middle.symm.trans hp)
    have pl := many_pos' l
    have pr := many_pos' r
    obtain ⟨p1, p2⟩ := perm_filter_in hp' nd
    obtain ⟨q1, q2⟩ := part_pnum E x l.size (by rw [p1.length_eq]; exact hx.symm)
    have t1 : (x ++ e :: y).take l.size = x := by rw [← hx]; exact List.take_left ..
    have t2 : (x ++ e :: y).drop (l.size + 1) = y := by
      have : x ++ e :: y = (x ++ [e]) ++ y := by rw [List.append_assoc]; rfl
      rw [this, ← hx, show x.length + 1 = (x ++ [e]).length by rw [List.length_append]; rfl]
      exact List.drop_left ..
    obtain ⟨a1, a2⟩ := onum_ok l (E.filter (· ∈ x)) x (hs'.sublist List.filter_sublist) p1.symm fx
    obtain ⟨b1, b2⟩ := onum_ok r (E.filter (· ∉ x)) y (hs'.sublist List.filter_sublist) p2.symm fy
    have eq : onum (.node l r) (e :: E) (x ++ e :: y) = (pnum E x l.size * many l + onum l (E.filter (· ∈ x)) x) * many r + onum r (E.filter (· ∉ x)) y := by
      show (pnum E ((x ++ e :: y).take l.size) l.size * many l + onum l (E.filter (· ∈ (x ++ e :: y).take l.size)) ((x ++ e :: y).take l.size)) * many r + onum r (E.filter (· ∉ (x ++ e :: y).take l.size)) ((x ++ e :: y).drop (l.size + 1)) = _
      rw [t1, t2]
    rw [eq]
    have hEl : E.length = l.size + r.size := by
      have := hp'.length_eq
      rw [List.length_append, hx, fy.len] at this
      exact this.symm
    generalize hP : pnum E x l.size = p at q1 q2
    generalize onum l (E.filter (· ∈ x)) x = k1 at a1 a2
    generalize onum r (E.filter (· ∉ x)) y = k2 at b1 b2
    have f1 : ((p * many l + k1) * many r + k2) / many r = p * many l + k1 := by
      rw [Nat.mul_comm, Nat.mul_add_div pr, Nat.div_eq_of_lt b1, Nat.add_zero]
    have f2 : ((p * many l + k1) * many r + k2) % many r = k2 := by
      rw [Nat.mul_comm, Nat.mul_add_mod, Nat.mod_eq_of_lt b1]
    have f3 : (p * many l + k1) / many l = p := by
      rw [Nat.mul_comm, Nat.mul_add_div pl, Nat.div_eq_of_lt a1, Nat.add_zero]
    have f4 : (p * many l + k1) % many l = k1 := by
      rw [Nat.mul_comm, Nat.mul_add_mod, Nat.mod_eq_of_lt a1]
    refine ⟨?_, ?_⟩
    · show _ < choose (l.size + r.size) l.size * (many l * many r)
      rw [← hEl]
      have h1 : p * many l + k1 < choose E.length l.size * many l := by
        have : (p + 1) * many l ≤ choose E.length l.size * many l := Nat.mul_le_mul_right _ q1
        rw [Nat.add_mul, Nat.one_mul] at this
        (first | with_reducible assumption | lia | omega)
      have h2 : (p * many l + k1 + 1) * many r ≤ choose E.length l.size * many l * many r := Nat.mul_le_mul_right _ h1
      rw [Nat.add_mul, Nat.one_mul] at h2
      rw [← Nat.mul_assoc]
      (first | with_reducible assumption | lia | omega)
    · show ord l (part E l.size (((p * many l + k1) * many r + k2) / (many l * many r))).1 (((p * many l + k1) * many r + k2) / many r % many l) ++ e :: ord r (part E l.size (((p * many l + k1) * many r + k2) / (many l * many r))).2 (((p * many l + k1) * many r + k2) % many r) = _
      have f5 : ((p * many l + k1) * many r + k2) / (many l * many r) = p := by
        rw [Nat.mul_comm (many l), ← Nat.div_div_eq_div_mul, f1, f3]
      rw [f5, f1, f4, f2, q2, a2, b2]
theorem onum_inj {t : BT} {E o o' : List Nat} (hs : E.Pairwise (· < ·)) (h : o.Perm E) (h' : o'.Perm E) (f : FitL t o) (f' : FitL t o') (e : onum t E o = onum t E o') : o = o' := by
  rw [← (onum_ok t E o hs h f).2, e, (onum_ok t E o' hs h' f').2]
theorem fit_iff : ∀ (t : BT) (o : List Nat) (g : Nat → Int) (f : Nat), o.length = t.size → (∀ i, i < t.size → g (f + i) = ((o.getD i 0 : Nat) : Int)) → (Fits g f t ↔ FitL t o)
  | .nil, o, g, f, hl, _ => ⟨fun _ => List.length_eq_zero_iff.mp hl, fun _ => trivial⟩
  | .node l r, o, g, f, hl, hg => by
    have hs : (BT.node l r).size = l.size + r.size + 1 := rfl
    have hlo : l.size < o.length := by (first | with_reducible assumption | lia | omega)
    have dec : o = o.take l.size ++ o[l.size] :: o.drop (l.size + 1) := by
      rw [← List.drop_eq_getElem_cons hlo, List.take_append_drop]
    have hxl : (o.take l.size).length = l.size := by rw [List.length_take]; (first | with_reducible assumption | lia | omega)
    have hyl : (o.drop (l.size + 1)).length = r.size := by rw [List.length_drop]; (first | with_reducible assumption | lia | omega)
    have at_ : ∀ i (h : i < o.length), o.getD i 0 = o[i] := fun i h => by rw [List.getD_eq_getElem?_getD, List.getElem?_eq_getElem h]; rfl
    have gx : ∀ i, i < l.size → g (f + i) = (((o.take l.size).getD i 0 : Nat) : Int) := fun i hi => by
      rw [hg i (by (first | with_reducible assumption | lia | omega)), List.getD_eq_getElem?_getD, List.getD_eq_getElem?_getD, List.getElem?_take_of_lt hi]
    have gy : ∀ i, i < r.size → g (f + l.size + 1 + i) = (((o.drop (l.size + 1)).getD i 0 : Nat) : Int) := fun i hi => by
      have e : f + l.size + 1 + i = f + (l.size + 1 + i) := by (first | with_reducible assumption | lia | omega)
      rw [e, hg _ (by (first | with_reducible assumption | lia | omega)), List.getD_eq_getElem?_getD, List.getD_eq_getElem?_getD, List.getElem?_drop]
    have g0 : g (f + l.size) = ((o[l.size] : Nat) : Int) := by rw [hg _ (by (first | with_reducible assumption | lia | omega)), at_ _ hlo]
    have il := fit_iff l (o.take l.size) g f hxl gx
    have ir := fit_iff r (o.drop (l.size + 1)) g (f + l.size + 1) hyl gy
    constructor
    · rintro ⟨a1, a2, a3, a4⟩
      refine ⟨_, _, _, dec, hxl, fun z hz => ?_, fun z hz => ?_, il.mp a3, ir.mp a4⟩
      · obtain ⟨i, hi, rfl⟩ := List.getElem_of_mem hz
        rw [hxl] at hi
        have := a1 (f + i) (by (first | with_reducible assumption | lia | omega)) (by (first | with_reducible assumption | lia | omega))
        rw [g0, gx i hi, List.getD_eq_getElem?_getD, List.getElem?_eq_getElem (by rw [hxl]; exact hi)] at this
        exact_mod_cast this
      · obtain ⟨i, hi, rfl⟩ := List.getElem_of_mem hz
        rw [hyl] at hi
        have := a2 (f + l.size + 1 + i) (by (first | with_reducible assumption | lia | omega)) (by (first | with_reducible assumption | lia | omega))
        rw [g0, gy i hi, List.getD_eq_getElem?_getD, List.getElem?_eq_getElem (by rw [hyl]; exact hi)] at this
        exact_mod_cast this
    · rintro ⟨x, e, y, h1, h2, h3, h4, h5, h6⟩
      have c1 : o.take l.size = x := by rw [h1, ← h2]; exact List.take_left ..
      have c2 : o.drop (l.size + 1) = y := by
        rw [h1, show x ++ e :: y = (x ++ [e]) ++ y by rw [List.append_assoc]; rfl, ← h2, show x.length + 1 = (x ++ [e]).length by rw [List.length_append]; rfl]
        exact List.drop_left ..
      have c0 : g (f + l.size) = ((e : Nat) : Int) := by
        rw [hg _ (by (first | with_reducible assumption | lia | omega)), h1, List.getD_eq_getElem?_getD, ← h2, List.getElem?_append_right (Nat.le_refl _), Nat.sub_self]
        rfl
      rw [c1] at gx il hxl
      rw [c2] at gy ir hyl
      refine ⟨fun j z1 z2 => ?_, fun j z1 z2 => ?_, il.mpr h5, ir.mpr h6⟩
      · have e1 : j = f + (j - f) := by (first | with_reducible assumption | lia | omega)
        rw [c0, e1, gx _ (by (first | with_reducible assumption | lia | omega)), List.getD_eq_getElem?_getD, List.getElem?_eq_getElem (by (first | with_reducible assumption | lia | omega))]
        have := h3 _ (List.getElem_mem (l := x) (n := j - f) (by (first | with_reducible assumption | lia | omega)))
        exact_mod_cast this
      · have e1 : j = f + l.size + 1 + (j - (f + l.size + 1)) := by (first | with_reducible assumption | lia | omega)
        rw [c0, e1, gy _ (by (first | with_reducible assumption | lia | omega)), List.getD_eq_getElem?_getD, List.getElem?_eq_getElem (by (first | with_reducible assumption | lia | omega))]
        have := h4 _ (List.getElem_mem (l := y) (n := j - (f + l.size + 1)) (by (first | with_reducible assumption | lia | omega)))
        exact_mod_cast this
theorem choose_rec : ∀ (n k : Nat), choose n k * (n - k) = choose n (k + 1) * (k + 1)
  | n, k => by
    rcases Nat.lt_or_ge n k with h | h
    · rw [choose_gt h, choose_gt (by (first | with_reducible assumption | lia | omega))]
      (first | with_reducible assumption | lia | omega)
    · obtain ⟨d, rfl⟩ : ∃ d, n = k + d := ⟨n - k, by (first | with_reducible assumption | lia | omega)⟩
      cases d with
      | zero =>
        rw [choose_gt (show k + 0 < k + 1 by (first | with_reducible assumption | lia | omega))]
        simp
      | succ d =>
        have h1 := choose_fact k (d + 1)
        have h2 := choose_fact (k + 1) d
        have e : k + 1 + d = k + (d + 1) := by (first | with_reducible assumption | lia | omega)
        rw [e] at h2
        have p : 0 < fact k * fact d := Nat.mul_pos (fact_pos _) (fact_pos _)
        refine Nat.eq_of_mul_eq_mul_right p ?_
        have l1 : choose (k + (d + 1)) k * (k + (d + 1) - k) * (fact k * fact d) = choose (k + (d + 1)) k * (fact k * ((d + 1) * fact d)) := by
          rw [show k + (d + 1) - k = d + 1 by (first | with_reducible assumption | lia | omega)]
          ac_rfl
        have l2 : choose (k + (d + 1)) (k + 1) * (k + 1) * (fact k * fact d) = choose (k + (d + 1)) (k + 1) * ((k + 1) * fact k * fact d) := by
          ac_rfl
        rw [l1, l2]
        exact h1.trans h2.symm
theorem choose_div (n k : Nat) : choose n k * (n - k) / (k + 1) = choose n (k + 1) := by
  rw [choose_rec, Nat.mul_div_cancel _ (Nat.succ_pos k)]
theorem choose_le : ∀ (n k : Nat), choose n k ≤ 2 ^ n
  | 0, 0 => Nat.le_refl _
  | 0, _ + 1 => Nat.zero_le _
  | n + 1, 0 => by rw [choose_zero]; exact Nat.one_le_two_pow
  | n + 1, k + 1 => by
    have := choose_le n k
    have := choose_le n (k + 1)
    rw [choose_step, Nat.pow_succ]
    (first | with_reducible assumption | lia | omega)
theorem many_le (t : BT) : many t ≤ fact t.size := by
  rw [← many_hooks]
  exact Nat.le_mul_of_pos_right _ (hooks_pos t)
end Cart

namespace Cart
theorem fit_head {l r : BT} {E x y : List Nat} {e : Nat} (hs : E.Pairwise (· < ·)) (hp : (x ++ e :: y).Perm E) (hlt : ∀ z ∈ x, e < z) (hle : ∀ z ∈ y, e ≤ z) : E = e :: E.tail ∧ (x ++ y).Perm E.tail ∧ E.tail.Pairwise (· < ·) := by
  cases E with
  | nil =>
    have := hp.length_eq
    rw [List.length_append, List.length_cons] at this
    simp at this
  | cons e0 E =>
    obtain ⟨hmin, hs'⟩ := List.pairwise_cons.mp hs
    have ee : e = e0 := by
      have m1 : e ∈ e0 :: E := hp.mem_iff.mp (List.mem_append_right _ (List.mem_cons_self ..))
      have m2 : e0 ∈ x ++ e :: y := hp.mem_iff.mpr (List.mem_cons_self ..)
      have le1 : e0 ≤ e := by
        rcases List.mem_cons.mp m1 with q | q
        · exact Nat.le_of_eq q.symm
        · exact Nat.le_of_lt (hmin e q)
      rcases List.mem_append.mp m2 with q | q
      · have := hlt e0 q; (first | with_reducible assumption | lia | omega)
      · rcases List.mem_cons.mp q with q | q
        · exact q.symm
        · have := hle e0 q; (first | with_reducible assumption | lia | omega)
    subst ee
    exact ⟨rfl, List.Perm.cons_inv (List.perm_middle.symm.trans hp), hs'⟩
theorem onum_node {l r : BT} {E x y : List Nat} {e : Nat} (hx : x.length = l.size) : onum (.node l r) E (x ++ e :: y) = (pnum E.tail x l.size * many l + onum l (E.tail.filter (· ∈ x)) x) * many r + onum r (E.tail.filter (· ∉ x)) y := by
  have t1 : (x ++ e :: y).take l.size = x := by rw [← hx]; exact List.take_left ..
  have t2 : (x ++ e :: y).drop (l.size + 1) = y := by
    have : x ++ e :: y = (x ++ [e]) ++ y := by rw [List.append_assoc]; rfl
    rw [this, ← hx, show x.length + 1 = (x ++ [e]).length by rw [List.length_append]; rfl]
    exact List.drop_left ..
  show (pnum E.tail ((x ++ e :: y).take l.size) l.size * many l + onum l (E.tail.filter (· ∈ (x ++ e :: y).take l.size)) ((x ++ e :: y).take l.size)) * many r + onum r (E.tail.filter (· ∉ (x ++ e :: y).take l.size)) ((x ++ e :: y).drop (l.size + 1)) = _
  rw [t1, t2]
theorem choose_pos (a b : Nat) : 0 < choose (a + b) a := by
  rcases Nat.eq_zero_or_pos (choose (a + b) a) with z | z
  · have h := choose_fact a b
    rw [z, Nat.zero_mul] at h
    have := fact_pos (a + b)
    (first | with_reducible assumption | lia | omega)
  · exact z
theorem fact_small' : ∀ n, n ≤ 40 → fact n < 2 ^ 160 := by decide +kernel
theorem many_small {t : BT} (h : t.size ≤ 40) : many t < 2 ^ 160 := Nat.lt_of_le_of_lt (many_le t) (fact_small' _ h)
theorem many_two {l r : BT} (h : l.size + r.size < 40) : many l * many r < 2 ^ 160 := by
  have h1 : many l * many r ≤ many (.node l r) := by
    show _ ≤ choose (l.size + r.size) l.size * (many l * many r)
    exact Nat.le_mul_of_pos_left _ (choose_pos _ _)
  exact Nat.lt_of_le_of_lt h1 (many_small (by show l.size + r.size + 1 ≤ 40; (first | with_reducible assumption | lia | omega)))
theorem choose_small {n k : Nat} (h : n ≤ 40) : choose n k ≤ 2 ^ 40 := Nat.le_trans (choose_le n k) (Nat.pow_le_pow_right (by decide) h)
end Cart

namespace L2
open PySem
theorem forIn_yield_fold {α β : Type} {l : List α} {f : α → β → Sem (ForInStep β)} (g : α → β → β) (c : β) (h : ∀ x ∈ l, ∀ c, f x c = pure (.yield (g x c))) :
    forIn l c f = pure (l.foldl (fun c x => g x c) c) := by
  induction l generalizing c with
  | nil => rfl
  | cons x l ih =>
    rw [List.forIn_cons, h x List.mem_cons_self, pure_bind, List.foldl_cons]
    exact ih (g x c) fun y hy => h y (List.mem_cons_of_mem _ hy)
noncomputable def capG (env : Env) (x : Str × NameKind) (c : List (Str × Addr)) : List (Str × Addr) := if (x.2 == NameKind.free) = true then (x.1, (env.cells.lookup x.1).getD 0) :: c else c
noncomputable def capt (scope : Scope) (env : Env) : List (Str × Addr) := scope.names.foldl (fun c x => capG env x c) []
theorem closure_capt {scope : Scope} {env : Env} (h : ∀ n, (n, NameKind.free) ∈ scope.names → ∃ c, env.cells.lookup n = some c) : closureFor scope env = pure (capt scope env) := by
  simp only [closureFor]
  rw [forIn_yield_fold (capG env) [] (fun x hx c => ?_)]
  · rfl
  · obtain ⟨n, k⟩ := x
    by_cases hk : (k == NameKind.free) = true
    · have e : k = .free := by simpa using hk
      subst e
      obtain ⟨a, ha⟩ := h n hx
      simp [capG, cellOf, ha]
    · simp [capG, hk]
theorem capt_look {env : Env} : ∀ (names : List (Str × NameKind)) (acc : List (Str × Addr)) (n : Str) (c : Addr),
    (names.foldl (fun c x => capG env x c) acc).lookup n = some c → acc.lookup n = some c ∨ ((n, NameKind.free) ∈ names ∧ c = (env.cells.lookup n).getD 0)
  | [], acc, n, c, h => .inl h
  | (m, k) :: r, acc, n, c, h => by
    rcases capt_look r (capG env (m, k) acc) n c h with h | ⟨h1, h2⟩
    · by_cases hk : (k == NameKind.free) = true
      · have e : k = .free := by simpa using hk
        subst e
        have e2 : capG env (m, NameKind.free) acc = (m, (env.cells.lookup m).getD 0) :: acc := by simp [capG]
        rw [e2, List.lookup_cons] at h
        by_cases hn : (n == m) = true
        · have e3 : n = m := by simpa using hn
          subst e3
          rw [hn] at h
          exact .inr ⟨List.mem_cons_self, (Option.some.inj h).symm⟩
        · rw [Bool.eq_false_iff.mpr hn] at h
          exact .inl h
      · have e2 : capG env (m, k) acc = acc := by simp [capG, hk]
        rw [e2] at h
        exact .inl h
    · exact .inr ⟨List.mem_cons_of_mem _ h1, h2⟩
theorem capt_some {env : Env} : ∀ (names : List (Str × NameKind)) (acc : List (Str × Addr)) (n : Str), ((n, NameKind.free) ∈ names ∨ ∃ c, acc.lookup n = some c) →
    ∃ c, (names.foldl (fun c x => capG env x c) acc).lookup n = some c
  | [], acc, n, h => by
    rcases h with h | h
    · cases h
    · exact h
  | (m, k) :: r, acc, n, h => by
    refine capt_some r (capG env (m, k) acc) n ?_
    rcases h with h | ⟨c, h⟩
    · rcases List.mem_cons.mp h with e | h
      · cases e
        exact .inr ⟨_, by simp [capG] <;> rfl⟩
      · exact .inl h
    · right
      by_cases hk : (k == NameKind.free) = true
      · by_cases hn : (n == m) = true
        · exact ⟨_, by simp [capG, hk, List.lookup_cons, hn] <;> rfl⟩
        · exact ⟨c, by simp [capG, hk, List.lookup_cons, hn, h]⟩
      · exact ⟨c, by simp [capG, hk, h]⟩
theorem relabel_kind {env : Env} : ∀ (names : List (Str × NameKind)) (x : Str) (k : NameKind), (∀ y ∈ names, y.2 ≠ .cell) →
    (names.map fun (n, k) => if (k == NameKind.free && env.scope.kind == .function && env.kindOf n == some .cell) then (n, NameKind.cell) else (n, k)).lookup x = some k → (k = .cell ∨ k = .free) → (x, NameKind.free) ∈ names
  | [], x, k, _, h, _ => by simp at h
  | (n, kk) :: r, x, k, hn, h, hk => by
    have ih := relabel_kind (env := env) r x k (fun y hy => hn y (List.mem_cons_of_mem _ hy))
    rw [List.map_cons] at h
    by_cases hx : (x == n) = true
    · have e3 : x = n := by simpa using hx
      subst e3
      by_cases hc : (kk == NameKind.free && env.scope.kind == .function && env.kindOf x == some .cell) = true
      · have e : kk = .free := by
          have := hc
          simp at this
          exact this.1.1
        subst e
        exact List.mem_cons_self
      · try dsimp only at h
        rw [if_neg hc, List.lookup_cons, hx] at h
        have e : kk = k := Option.some.inj h
        subst e
        rcases hk with e | e
        · exact absurd e (hn (x, kk) List.mem_cons_self)
        · subst e
          exact List.mem_cons_self
    · refine List.mem_cons_of_mem _ (ih ?_ hk)
      try dsimp only at h
      by_cases hc : (kk == NameKind.free && env.scope.kind == .function && env.kindOf n == some .cell) = true
      · rw [if_pos hc, List.lookup_cons, Bool.eq_false_iff.mpr hx] at h
        exact h
      · rw [if_neg hc, List.lookup_cons, Bool.eq_false_iff.mpr hx] at h
        exact h
theorem relabel_free {env : Env} : ∀ (names : List (Str × NameKind)) (x : Str), names.lookup x = some .free →
    (names.map fun (n, k) => if (k == NameKind.free && env.scope.kind == .function && env.kindOf n == some .cell) then (n, NameKind.cell) else (n, k)).lookup x = some .cell ∨
    (names.map fun (n, k) => if (k == NameKind.free && env.scope.kind == .function && env.kindOf n == some .cell) then (n, NameKind.cell) else (n, k)).lookup x = some .free
  | [], x, h => by simp at h
  | (n, kk) :: r, x, h => by
    have ih := relabel_free (env := env) r x
    rw [List.map_cons]
    try dsimp only
    rw [List.lookup_cons] at h
    by_cases hx : (x == n) = true
    · rw [hx] at h
      have e : kk = .free := Option.some.inj h
      subst e
      by_cases hc : (NameKind.free == NameKind.free && env.scope.kind == .function && env.kindOf n == some .cell) = true
      · rw [if_pos hc, List.lookup_cons, hx]
        exact .inl rfl
      · rw [if_neg hc, List.lookup_cons, hx]
        exact .inr rfl
    · rw [Bool.eq_false_iff.mpr hx] at h
      by_cases hc : (kk == NameKind.free && env.scope.kind == .function && env.kindOf n == some .cell) = true
      · rw [if_pos hc, List.lookup_cons, Bool.eq_false_iff.mpr hx]
        exact ih h
      · rw [if_neg hc, List.lookup_cons, Bool.eq_false_iff.mpr hx]
        exact ih h
end L2

namespace L2
open PySem PySem.Spec PyProof.Rows
section
variable {X : Cx}
noncomputable def eqLs (xs ys : List V) : Bool := decide (xs.length = ys.length) && (List.range xs.length).all fun j => eqV (xs.getD j .non) (ys.getD j .non)
theorem eqV_self {x : V} (h : flatV x = true) : eqV x x = true := by
  cases x <;> simp_all [flatV, eqV]
theorem eqLs_self {xs : List V} (h : xs.all flatV = true) : eqLs xs xs = true := by
  unfold eqLs
  rw [decide_eq_true rfl, Bool.true_and, List.all_eq_true]
  intro j hj
  have hj : j < xs.length := List.mem_range.mp hj
  have e : xs.getD j .non = xs[j] := by simp [List.getD, hj]
  rw [e]
  exact eqV_self (List.all_eq_true.mp h _ (List.getElem_mem hj))
theorem flat_ints (ns : List Int) : (ns.map V.int).all flatV = true := by
  rw [List.all_map, List.all_eq_true]; intro x _; rfl
theorem seqEq_at {A : Around} {s : Shared} {xs ys : List V} {us ws : List Value} (r : Vals xs us) (r' : Vals ys ws) (f : xs.all flatV = true) (f' : ys.all flatV = true) :
    ∀ j (h1 : j < us.toArray.size) (h2 : j < ws.toArray.size), SeqAt.EqAt A s us.toArray[j] ws.toArray[j] (eqV (xs.getD j .non) (ys.getD j .non)) := by
  intro j h1 h2
  have l1 := r.length
  have l2 := r'.length
  have k1 : j < xs.length := by rw [l1]; simpa using h1
  have k2 : j < ys.length := by rw [l2]; simpa using h2
  have e1 : xs.getD j .non = xs[j] := by simp [List.getD, k1]
  have e2 : ys.getD j .non = ys[j] := by simp [List.getD, k2]
  obtain ⟨u, hu, ru⟩ := r.get (List.getElem?_eq_getElem k1)
  obtain ⟨w, hw, rw'⟩ := r'.get (List.getElem?_eq_getElem k2)
  have q1 : us.toArray[j] = u := by
    have : us[j]? = some us[j] := List.getElem?_eq_getElem (by rw [← l1]; exact k1)
    rw [this] at hu
    simpa using Option.some.inj hu
  have q2 : ws.toArray[j] = w := by
    have : ws[j]? = some ws[j] := List.getElem?_eq_getElem (by rw [← l2]; exact k2)
    rw [this] at hw
    simpa using Option.some.inj hw
  rw [e1, e2, q1, q2]
  exact eqAt_V ru rw' (List.all_eq_true.mp f _ (List.getElem_mem k1)) (List.all_eq_true.mp f' _ (List.getElem_mem k2))
inductive IrSqEq (K : PySem.W.Frag) (x : V) (y : V) (H : Hp) (Q : VK) : Prop where
  | mk (a b : Addr) (xs ys : List V) (h0 : x = .ref a) (h1 : y = .ref b) (h2 : ((SqL K H a xs ∧ SqL K H b ys) ∨ (SqT K H a xs ∧ SqT K H b ys))) (h3 : xs.all flatV = true) (h4 : ys.all flatV = true) (h5 : Q (.bl (eqLs xs ys)) H) : IrSqEq K x y H Q
noncomputable def rSqEq (K : PySem.W.Frag) : R2 := fun x y H Q => IrSqEq K x y H Q
inductive IrSqNe (K : PySem.W.Frag) (x : V) (y : V) (H : Hp) (Q : VK) : Prop where
  | mk (a b : Addr) (xs ys : List V) (h0 : x = .ref a) (h1 : y = .ref b) (h2 : ((SqL K H a xs ∧ SqL K H b ys) ∨ (SqT K H a xs ∧ SqT K H b ys))) (h3 : xs.all flatV = true) (h4 : ys.all flatV = true) (h5 : Q (.bl (!eqLs xs ys)) H) : IrSqNe K x y H Q
noncomputable def rSqNe (K : PySem.W.Frag) : R2 := fun x y H Q => IrSqNe K x y H Q
theorem eqLs_len {xs ys : List V} (h : xs.length = ys.length) : (List.range xs.length).all (fun j => eqV (xs.getD j .non) (ys.getD j .non)) = eqLs xs ys := by
  unfold eqLs
  rw [decide_eq_true h, Bool.true_and]
theorem eqLs_nlen {xs ys : List V} (h : ¬ xs.length = ys.length) : eqLs xs ys = false := by
  unfold eqLs
  rw [decide_eq_false h, Bool.false_and]
theorem eqLs_tup {xs ys : List V} : ((List.range (min xs.length ys.length)).all (fun j => eqV (xs.getD j .non) (ys.getD j .non)) && xs.length == ys.length) = eqLs xs ys := by
  by_cases h : xs.length = ys.length
  · rw [h, Nat.min_self, beq_self_eq_true, Bool.and_true, ← h]
    exact eqLs_len h
  · rw [eqLs_nlen h, beq_eq_false_iff_ne.mpr h, Bool.and_false]
theorem op_eqS (hu : X.A.units < cLine) : OpR X (compareOp .Eq) (rSqEq X.K) := by
  intro pins s σ H x y v u Q I rx ry h
  obtain ⟨a, b, xs, ys, rfl, rfl, hq, f, f', q⟩ := h
  cases rx
  cases ry
  rcases hq with ⟨h1, h2⟩ | ⟨h1, h2⟩
  · obtain ⟨its, r, pl, hz⟩ := I.list h1
    obtain ⟨its', r', pl', hz'⟩ := I.list h2
    have l1 := r.length
    have l2 := r'.length
    by_cases hl : xs.length = ys.length
    · refine SeqAt.eq_listAt pl.isList pl'.isList (by simp only [List.size_toArray]; (first | with_reducible assumption | lia | omega)) hu (seqEq_at r r' f f') ?_
      refine fin_bl I q ?_
      rw [List.size_toArray, ← l1]
      exact (eqLs_len hl).symm
    · refine SeqAt.eq_list_lengthsAt pl.isList pl'.isList (by simp only [List.size_toArray, bne_iff_ne, ne_eq]; (first | with_reducible assumption | lia | omega)) hu ?_
      exact fin_bl I q (eqLs_nlen hl)
  · obtain ⟨its, r, pl, hz⟩ := I.tuple h1
    obtain ⟨its', r', pl', hz'⟩ := I.tuple h2
    have l1 := r.length
    have l2 := r'.length
    refine SeqAt.eq_tupleAt pl pl' hu (seqEq_at r r' f f') ?_
    refine fin_bl I q ?_
    rw [List.size_toArray, List.size_toArray, ← l1, ← l2]
    exact eqLs_tup.symm
theorem op_neS (hu : X.A.units < cLine) : OpR X (compareOp .NotEq) (rSqNe X.K) := by
  intro pins s σ H x y v u Q I rx ry h
  obtain ⟨a, b, xs, ys, rfl, rfl, hq, f, f', q⟩ := h
  cases rx
  cases ry
  rcases hq with ⟨h1, h2⟩ | ⟨h1, h2⟩
  · obtain ⟨its, r, pl, hz⟩ := I.list h1
    obtain ⟨its', r', pl', hz'⟩ := I.list h2
    have l1 := r.length
    have l2 := r'.length
    by_cases hl : xs.length = ys.length
    · refine SeqAt.RcNeAt.lists pl.isList pl'.isList (by simp only [List.size_toArray]; (first | with_reducible assumption | lia | omega)) hu (seqEq_at r r' f f') _ _ _ _ ?_
      refine fin_bl I q ?_
      rw [List.size_toArray, ← l1]
      exact congrArg (!·) (eqLs_len hl).symm
    · refine SeqAt.RcNeAt.lists_lengths pl.isList pl'.isList (by simp only [List.size_toArray, bne_iff_ne, ne_eq]; (first | with_reducible assumption | lia | omega)) hu _ _ _ _ ?_
      exact fin_bl I q (by rw [eqLs_nlen hl] <;> rfl)
  · obtain ⟨its, r, pl, hz⟩ := I.tuple h1
    obtain ⟨its', r', pl', hz'⟩ := I.tuple h2
    have l1 := r.length
    have l2 := r'.length
    refine SeqAt.RcNeAt.tuples pl pl' hu (seqEq_at r r' f f') _ _ _ _ ?_
    refine fin_bl I q ?_
    rw [List.size_toArray, List.size_toArray, ← l1, ← l2]
    exact congrArg (!·) eqLs_tup.symm
inductive IrIsi (K : PySem.W.Frag) (xs : List V) (H : Hp) (Q : VK) : Prop where
  | mk (x : V) (n : String) (t : Value) (b : Bool) (h0 : xs = [x, .ty n]) (h1 : TyOf K H x t) (h2 : PySem.W.kitOne K t (.type n) = some b) (h3 : Q (.bl b) H) : IrIsi K xs H Q
noncomputable def rIsi (K : PySem.W.Frag) : List V → Hp → VK → Prop := fun xs H Q => IrIsi K xs H Q
theorem call_isi : CallR X (.builtin "isinstance") (rIsi X.K) := by
  intro pins s σ H xs us Q I r h
  obtain ⟨x, n, t, b, rfl, ty, e, q⟩ := h
  obtain ⟨u, w', rfl, ru, rw'⟩ := vals2 r
  cases (show w' = Value.type n from rw')
  exact isinst_ok I ru ty e fun tk => ⟨.bl b, H, I.tok tk, rfl, q⟩
theorem ints_kept {s : Shared} {ns : List Int} {its : List Value} (hi : IntsAre its ns) : ∃ xs : Array (Int × Tok), its.toArray = intItems xs ∧ ns = xs.toList.map (·.1) := by
  obtain ⟨xs, e⟩ := hi.allInts.items
  exact ⟨xs, e, by rw [← hi.numsOf, ← nums_intItems, ← e]⟩
inductive IrMinL (K : PySem.W.Frag) (xs : List V) (H : Hp) (Q : VK) : Prop where
  | mk (p : Addr) (ns : List Int) (h0 : xs = [.ref p]) (h1 : SqL K H p (ns.map V.int)) (h2 : 0 < ns.length) (h3 : ∀ m, m ∈ ns → (∀ a ∈ ns, m ≤ a) → Q (.int m) H) : IrMinL K xs H Q
noncomputable def rMinL (K : PySem.W.Frag) : List V → Hp → VK → Prop := fun xs H Q => IrMinL K xs H Q
theorem call_minL (hc : X.calm = true) : CallR X (.builtin "min") (rMinL X.K) := by
  intro pins s σ H xs us Q I r h
  obtain ⟨p, ns, rfl, hq, hne, q⟩ := h
  obtain ⟨u, rfl, rx⟩ := vals1 r
  cases rx
  obtain ⟨its, r', pl, hz⟩ := I.list hq
  obtain ⟨ys, e, hns⟩ := ints_kept (s := s) (intsAre_of r')
  have hsz : 0 < ys.size := by
    have h3 := hne; rw [hns, List.length_map, Array.length_toList] at h3; exact h3
  refine min_intList (I.ok.hd hc) (e ▸ pl.isList) hsz fun v h' tk hv hk => ?_
  obtain ⟨t, rfl⟩ := intItems_at hv
  obtain ⟨h1, h2⟩ := argBest_lt (numAt ys) (ys.size - 1)
  refine ⟨.int (numAt ys (argBest _ (ys.size - 1))), H, I.kept hk, ⟨t, rfl⟩, q _ ?_ fun a ha => ?_⟩
  · rw [hns, numAt_eq]; exact PySem.getD_mem (by rw [List.length_map, Array.length_toList]; (first | with_reducible assumption | lia | omega))
  · rw [hns] at ha
    obtain ⟨j, hj, rfl⟩ := PySem.mem_getD ha
    rw [List.length_map, Array.length_toList] at hj
    rw [← numAt_eq]; exact h2 j (by (first | with_reducible assumption | lia | omega))
inductive IrIndexL  (x : V) (vs : List V) (H : Hp) (Q : VK) : Prop where
  | mk (l : Addr) (ns : List Int) (k : Int) (h0 : x = .ref l) (h1 : vs = [.int k]) (h2 : H l = some (.lst (ns.map V.int))) (h3 : k ∈ ns) (h4 : Q (.int (ns.idxOf k : Nat)) H) : IrIndexL  x vs H Q
noncomputable def rIndexL : V → List V → Hp → VK → Prop := fun x vs H Q => IrIndexL  x vs H Q
theorem mt_index : MtM X "list.index" rIndexL := by
  intro pins s σ H x vs v us Q I rx rv h
  obtain ⟨l, ns, k, rfl, rfl, hH, hk, q⟩ := h
  cases rx
  obtain ⟨u, rfl, ru⟩ := rv.one
  obtain ⟨t, rfl⟩ := ru
  obtain ⟨z, its, n, r, hl, e⟩ := I.lstM hH
  have hi := intsAre_of r
  have hlen := hi.length
  have hj : ns.idxOf k < ns.length := List.idxOf_lt_length_iff.mpr hk
  have hn := line63
  rw [List.length_map] at z
  refine call_meets F.slot_list_index ⟨_, e, rfl⟩ F.entry_list_index (F.args_list_index_2 _ _)
    (SeqAt.list_indexAt l its.toArray n none #[] (.int k t) (isInt k) (ns.idxOf k) (by simpa [hlen] using hj) (by (first | with_reducible assumption | lia | omega)) ?_ ?_) ⟨e, fun y hy => (eq_isInt k t hi y (by simpa using hy)).at _ _, ?_⟩
  · show isInt k its[ns.idxOf k] = true
    rw [isInt_at k hi _ (by (first | with_reducible assumption | lia | omega)) hj]
    simpa using List.getElem_idxOf hj
  · intro j hjs hlt
    show isInt k its[j] = false
    rw [isInt_at k hi j (by simpa using hjs) (by (first | with_reducible assumption | lia | omega))]
    exact ne_of_lt_idxOf hlt _
  · exact ⟨.int (ns.idxOf k : Nat), H, I.tok _, ⟨_, rfl⟩, q⟩
end
section
variable {X : Cx} {a b c d : Expr} {ta tb tc td : TE} {pos : Pos}
noncomputable def tChain3 (r r' r'' : R2) (ta tb tc td : TE) : TE := fun σ H Q => ta σ H fun x H1 => tb σ H1 fun y H2 => r x y H2 fun z H3 => ∃ k, z = .bl k ∧
  (if k = true then tc σ H3 fun w' H4 => r' y w' H4 fun z' H5 => ∃ k', z' = .bl k' ∧ (if k' = true then td σ H5 fun w2 H6 => r'' w' w2 H6 Q else Q (.bl false) H5) else Q (.bl false) H3)
theorem pt_chain3 {op op' op'' : CmpOp} {r r' r'' : R2} (ho : OpR X (compareOp op) r) (ho' : OpR X (compareOp op') r') (ho'' : OpR X (compareOp op'') r'') (ha : PE X a ta) (hb : PE X b tb) (hc : PE X c tc) (hd : PE X d td)
    (hm : lastMarks [op, op', op''] [b, c, d] = false := by with_unfolding_all rfl) : PT X (.Compare a [op, op', op''] [b, c, d] pos) (tTest (tChain3 r r' r'' ta tb tc td)) := by
  intro pins s σ H Q I h
  refine isTrue_chain (thn (ha pins s σ H _ I h) fun v s1 hq_ => EPe hq_ fun x H1 I1 r1 q1 => test_link (thn (hb pins s1 σ H1 _ I1 q1) fun u s2 hq_ => EPe hq_ fun y H2 I2 r2 q2 =>
    thn (ho pins s2 σ H2 x y v u _ I2 r1 r2 q2) fun d s3 hq_ => EPe hq_ fun z H3 I3 r3 ⟨k, e, q3⟩ => ?_)) hm
  subst e
  cases r3
  refine wpAny_truthy_bool ?_
  cases k with
  | false =>
    obtain ⟨k', e', q'⟩ := q3
    cases e'
    exact ite_ff ⟨H3, I3, q'⟩
  | true =>
    refine ite_tt (test_link (thn (hc pins s3 σ H3 _ I3 q3) fun w' s4 hq_ => EPe hq_ fun z' H4 I4 r4 q4 => thn (ho' pins s4 σ H4 y z' u w' _ I4 r2 r4 q4) fun d' s5 hq_ => EPe hq_ fun z2 H5 I5 r5 ⟨k2, e2, q5⟩ => ?_))
    subst e2
    cases r5
    refine wpAny_truthy_bool ?_
    cases k2 with
    | false =>
      obtain ⟨k', e', q'⟩ := q5
      cases e'
      exact ite_ff ⟨H5, I5, q'⟩
    | true =>
      refine ite_tt (test_last (thn (hd pins s5 σ H5 _ I5 q5) fun w2 s6 hq_ => EPe hq_ fun z6 H6 I6 r6 q6 => thn (ho'' pins s6 σ H6 z' z6 w' w2 _ I6 r4 r6 q6) fun d'' s7 hq_ => EPe hq_ fun z7 H7 I7 r7 ⟨k7, e7, q7⟩ => ?_))
      subst e7
      cases r7
      exact wpAny_truthy_bool ⟨H7, I7, q7⟩
end
section
variable {X : Cx} {tg : Expr}
end
end L2

namespace L2
open PySem PySem.Spec PyProof.Rows
section
variable {prog : Program} {w : World} {A : Around} {R : Result → Shared → Prop} {s : Shared}
theorem compLoop_own {elt target iter : Expr} {ifs : List Expr} {scope : Scope} {pos : Pos} {it acc : Value} {env : Env} (I : Nat → Shared → Prop)
    (turn : ∀ n s, I n s → wpAny (model prog w) A (pyNext it) (fun r s₁ => match r with
      | none => R (.ok .next) s₁
      | some v => wpAny (model prog w) A (letOwnedTupleGo target it v) (fun _ s₁' => wpAny (model prog w) A (assign target env v) (fun _ s₂ =>
          wpAny (model prog w) A (forIn ifs true fun c r => if r = true then do let ok ← isTrue c env (eval c env); pure (ForInStep.yield ok) else pure (ForInStep.yield r)) (fun ok s₃ =>
            if ok = true then wpAny (model prog w) A (eval elt env) (fun x s₄ =>
              wpAny (model prog w) A (call (.builtin "list.append") [acc, x]) (fun _ s₅ => ∃ m, m < n ∧ I m s₅) (notedBy (model prog w) A env fun e s' => R (.error e) s') s₄) (notedBy (model prog w) A env fun e s' => R (.error e) s') s₃
            else ∃ m, m < n ∧ I m s₃) (notedBy (model prog w) A env fun e s' => R (.error e) s') s₂) (notedBy (model prog w) A env fun e s' => R (.error e) s') s₁') (notedBy (model prog w) A env fun e s' => R (.error e) s') s₁) (notedBy (model prog w) A env fun e s' => R (.error e) s') s)
    (n : Nat) (h : I n s) :
    codeAny (model prog w) A (.compLoop (.ListComp elt [⟨target, iter, ifs, 0⟩] scope pos) 0 it acc env) R s := by
  refine codeAny_loop rfl I (fun n s hI => ?_) n h
  show wpAny _ A ((compTurn (.ListComp elt [⟨target, iter, ifs, 0⟩] scope pos) 0 it acc env).onRaise (fun x => do noteFrame x env; theTreesLotGoes x)) _ _ s
  refine wpAny_noted ?_
  rw [compTurn_list]
  refine wpAny_bind (wpAny_standAt (wpAny_bind (wpAny_mono (turn n s hI) (fun r s₁ h₁ => ?_) fun _ _ h' => h')))
  cases r with
  | none => exact wpAny_pure h₁
  | some v =>
    refine wpAny_bind (wpAny_mono h₁ (fun _ s₁' h₁' => ?_) fun _ _ h' => h')
    refine wpAny_bind (wpAny_mono h₁' (fun _ s₂ h₂ => wpAny_bind (wpAny_mono h₂ (fun ok s₃ h₃ => ?_) fun _ _ h' => h')) fun _ _ h' => h')
    cases ok with
    | false => exact wpAny_pure ⟨rfl, h₃⟩
    | true =>
      exact wpAny_bind (wpAny_bind (wpAny_mono h₃ (fun x s₄ h₄ => wpAny_bind (wpAny_mono h₄ (fun _ s₅ h₅ => wpAny_pure (wpAny_pure ⟨rfl, h₅⟩)) fun _ _ h' => h')) fun _ _ h' => h'))
end
noncomputable def cxC (X : Cx) (scope : Scope) (N : List Str) (s : Shared) (H : Hp) (C : Addr) (ex : List Addr) : Cx :=
  { X with N := N, s₀ := s, H₀ := H, env := compEnvC scope (capt scope X.env) C X.env, outer := X.stack, stack := X.stack, ex := ex, fn := fun _ => false, pn := [], xe := fun _ _ => False }
noncomputable def compOk (scope : Scope) (env : Env) (x : Str) (ys : List Str) : Bool :=
  scope.kind == .function && scope.names.all (fun y => y.2 != .cell && (y.2 != .local || scope.names.lookup y.1 == some .local) && (y.2 != .free || (env.kindOf y.1 == some .cell || env.kindOf y.1 == some .free))) &&
    scope.names.lookup x == some .local && ys.all (fun y => scope.names.lookup y == some .free)
structure CompOk (scope : Scope) (env : Env) (x : Str) (ys : List Str) : Prop where
  kind : scope.kind = .function
  cell : ∀ y ∈ scope.names, y.2 ≠ .cell
  names : ∀ y ∈ scope.names, y.2 = .local → scope.names.lookup y.1 = some .local
  free : ∀ n, (n, NameKind.free) ∈ scope.names → env.kindOf n = some .cell ∨ env.kindOf n = some .free
  own : scope.names.lookup x = some .local
  caps : ∀ y ∈ ys, scope.names.lookup y = some .free
theorem compOk_of {scope : Scope} {env : Env} {x : Str} {ys : List Str} (h : compOk scope env x ys = true) : CompOk scope env x ys := by
  unfold compOk at h
  simp only [Bool.and_eq_true, List.all_eq_true, beq_iff_eq, bne_iff_ne, Bool.or_eq_true] at h
  obtain ⟨⟨⟨h1, h2⟩, h3⟩, h4⟩ := h
  refine ⟨h1, fun y hy => (h2 y hy).1.1, fun y hy e => ?_, fun n hn => ?_, h3, h4⟩
  · rcases (h2 y hy).1.2 with z | z
    · exact absurd e z
    · exact z
  · rcases (h2 _ hn).2 with z | z
    · exact absurd rfl z
    · exact z
theorem mem_of_lookupF : ∀ {names : List (Str × NameKind)} {y : Str} {k : NameKind}, names.lookup y = some k → (y, k) ∈ names
  | [], _, _, h => by simp at h
  | (n, kk) :: r, y, k, h => by
    rw [List.lookup_cons] at h
    by_cases hx : (y == n) = true
    · rw [hx] at h
      have e : y = n := by simpa using hx
      have e2 : kk = k := Option.some.inj h
      subst e e2
      exact List.mem_cons_self
    · rw [Bool.eq_false_iff.mpr hx] at h
      exact List.mem_cons_of_mem _ (mem_of_lookupF h)
noncomputable def capσ (σ : St) (js : List Nat) : St := js.map fun j => (σ[j]?).getD none
noncomputable def PTs (X : Cx) (ifs : List Expr) (t : TT) : Prop :=
  ∀ (pins : List (Addr × Obj)) (s : Shared) (σ : St) (H : Hp) (Q : Bool → Hp → Prop), Inv X pins σ H s → t σ H Q →
    wpAny (model X.prog X.w) X.A (forIn ifs true fun c r => if r = true then do let ok ← isTrue c X.env (eval c X.env); pure (ForInStep.yield ok) else pure (ForInStep.yield r)) (TP X pins σ Q) X.xe s
theorem pts_one {X : Cx} {c : Expr} {t : TT} (h : PT X c t) : PTs X [c] t := fun pins s σ H Q I q => wpAny_tests_one (h pins s σ H Q I q)
noncomputable def tCompF (J : It) (tt : TT) (te : TE) (τ : St) (H1 : Hp) (Q : VK) : Prop := ∀ D, H1 D = none → ∃ W : Nat → Nat → Hp → Prop, (∃ m, W 0 m (upd H1 D (.lst []))) ∧ ∀ i m H, W i m H →
  (J.stop i H ∧ Q (.ref D) H) ∨ (J.go i H ∧ ∀ x H', J.yld i H x H' → tt (some x :: τ) H' fun b H2 =>
    if b = true then te (some x :: τ) H2 fun v H3 => ∃ ys m', H3 D = some (.lst ys) ∧ ys.length < sizeLine ∧ m' < m ∧ W (i + 1) m' (upd H3 D (.lst (ys ++ [v])))
    else ∃ m', m' < m ∧ W (i + 1) m' H2)
noncomputable def tComp (wi : TI) (tt : TT) (te : TE) (js : List Nat) : TE := fun σ H Q => wi σ H fun J H1 => tCompF J tt te (capσ σ js) H1 Q
section
variable {X : Cx}
structure AfterC (X : Cx) (pins : List (Addr × Obj)) (H : Hp) (s : Shared) (C : Addr) : Prop where
  free : H C = none
  ns : ∃ m, s.heap.Ns C m
  ne : C ≠ X.env.locals
  ab : X.s₀.heap.objs.size ≤ C
  cells : ∀ x c, X.env.cells.lookup x = some c → c ≠ C
  pins : ∀ p ∈ X.pn ++ pins, p.1 ≠ C
theorem comp_block {elt iter : Expr} {x : Str} {px pos : Pos} {ifs : List Expr} {scope : Scope} {ys : List Str} {js : List Nat} {tt : TT} {te : TE}
    (hk : CompOk scope X.env x ys) (hnd : (x :: ys).Nodup) (hjs : js.map (fun j => X.N[j]?) = ys.map some) (hc : X.calm = true)
    (ht : ∀ s H C ex, PTs (cxC X scope (x :: ys) s H C ex) ifs tt) (he : ∀ s H C ex, PE (cxC X scope (x :: ys) s H C ex) elt te)
    {pins : List (Addr × Obj)} {s2 : Shared} {σ : St} {H2 : Hp} {it : Addr} {fp : List Addr} {tn : Nat → Heap → Prop} {J : It} (I2 : Inv X pins σ H2 s2) (T : Turn X.prog X.w X.K (.Name x px) J fp it tn) (st : tn 0 s2.heap)
    (fpo : ∀ b ∈ fp, FpOk X pins H2 b) {Q : VK} (h : tCompF J tt te (capσ σ js) H2 Q) {RR : Value → Addr → Result → Shared → Prop} {E : Value → Shared → Prop}
    (hRR : ∀ D C s' H', Inv X pins σ H' s' → AfterC X pins H' s' C → Q (.ref D) H' → RR (.ref D) C (.ok .next) s') :
    wpAny (model X.prog X.w) X.A (newList []) (fun acc s₃ => wpAny (model X.prog X.w) X.A (newFunctionEnv scope X.env.globals (capt scope X.env) [] X.env.qual none .none (some X.env)) (fun cenv s₄ =>
      codeAny (model X.prog X.w) X.A (.compStart (.ListComp elt [⟨.Name x px, iter, ifs, 0⟩] scope pos) 0 (.ref it) acc { cenv with scope := relabel scope X.env }) (RR acc cenv.locals) s₄) E s₃) E s2 := by
  refine wpAny_newObj_type (wpAny_newFunctionEnv hk.cell (by intro y hy; simp at hy) (fun h₁ hns₁ hsb₁ => ?_) hk.kind)
  try dsimp only at hns₁ hsb₁ ⊢
  have hD2 : H2 s2.heap.objs.size = none := I2.fresh
  obtain ⟨W, ⟨m0, w0⟩, turn⟩ := h s2.heap.objs.size hD2
  have I3 : Inv X pins σ (upd H2 s2.heap.objs.size (.lst [])) { s2 with heap := s2.heap.push { cls := .type "list", data := .seq ([] : List Value).toArray } } := I2.lnew (t' := s2.toks) (ys := []) (its := []) .nil (Nat.zero_le _)
  generalize hs3 : ({ s2 with heap := s2.heap.push { cls := .type "list", data := .seq ([] : List Value).toArray } } : Shared) = s3 at I3
  have hs3h : s3.heap = s2.heap.push { cls := .type "list", data := .seq ([] : List Value).toArray } := by rw [← hs3]
  generalize hH3 : upd H2 s2.heap.objs.size (.lst []) = H3 at I3 w0
  have e3 : s2.heap.push { cls := .type "list", dict := none, data := .seq ([] : List Value).toArray } = s3.heap := hs3h.symm
  rw [e3] at hns₁ hsb₁ ⊢
  have old : ∀ b o, s3.heap.get? b = some o → h₁.get? b = some o := fun b o e => hsb₁.extBut b o (Nat.ne_of_lt (Heap.lt_size e)) (Heap.get?_push_of_some _ e)
  have old2 : ∀ b o, s2.heap.get? b = some o → s3.heap.get? b = some o := fun b o e => by rw [hs3h]; exact Heap.get?_push_of_some _ e
  have fps : ∀ b ∈ fp, ∃ o, s2.heap.get? b = some o ∧ ∀ v, o.data ≠ .cell v := T.obj _ _ st
  have fpC : ∀ b ∈ fp, b ≠ s3.heap.objs.size := fun b hb => by
    obtain ⟨o, e, _⟩ := fps b hb
    exact Nat.ne_of_lt (Heap.lt_size (old2 b o e))
  have capEnv : ∀ n c, (capt scope X.env).lookup n = some c → (n, NameKind.free) ∈ scope.names ∧ X.env.cells.lookup n = some c := fun n c e => by
    rcases capt_look scope.names [] n c e with z | ⟨z1, z2⟩
    · simp at z
    · obtain ⟨c', hc'⟩ := I2.ok.has n (hk.free n z1)
      rw [hc'] at z2
      exact ⟨z1, by rw [z2]; exact hc'⟩
  have I3s := I3.stkSub
  have ok' : (cxC X scope (x :: ys) s3 H3 s3.heap.objs.size fp).Ok := by
    refine ⟨I3.ok.mod, hk.kind, I3.ok.glob, I3.ok.blt, Nat.le_refl _, ?_, ?_, ?_, I3.ok.hd, I3.ok.frames, .inl rfl, ?_, I3.bs, ?_, ?_, ?_, I3.stack, I3.stkFree⟩
    · intro a b c ha hb
      exact I3.ok.inj a b c (capEnv a c ha).2 (capEnv b c hb).2
    · intro a ha
      have hm : (a, NameKind.free) ∈ scope.names := by
        rcases ha with z | z
        · exact relabel_kind scope.names a .cell hk.cell z (.inl rfl)
        · exact relabel_kind scope.names a .free hk.cell z (.inr rfl)
      exact capt_some scope.names [] a (.inl hm)
    · intro a c z
      cases z
    · intro b hb
      exact ⟨fpC b hb, fun a c e => (fpo b hb).2.2.2.2.1 a c (capEnv a c e).2⟩
    · exact Nat.le_trans I3.ok.bsz I3.sz
    · intro b o e hb
      rcases (fpo b hb).2.2.2.1 with z | z
      · exact I3.ok.noex b o e z
      · exact absurd (Nat.lt_of_lt_of_le (Heap.lt_size (I3.ok.bs b o e).1) z) (Nat.lt_irrefl _)
    · intro b hb z
      rcases List.mem_cons.mp (I3s b z) with q | q
      · exact (fpo b hb).2.1 q
      · exact (fpo b hb).2.2.1 q
  have hlen : (capσ σ js).length = ys.length := by
    have := congrArg List.length hjs
    rw [List.length_map, List.length_map] at this
    unfold capσ
    rw [List.length_map]
    exact this
  have I4 : ∀ t', Inv (cxC X scope (x :: ys) s3 H3 s3.heap.objs.size fp) [] (none :: capσ σ js) H3 { s3 with heap := h₁, toks := t' } := fun t' => by
    refine ⟨ok', rfl, I3.bare, Un.kept old, ⟨_, hns₁, fun i y v e1 e2 e3 => ?_⟩, fun a c e => ?_, ?_, fun a c e => I3.freeC a c (capEnv a c e).2, fun p hp => ?_, I3.hok.kept old, ?_⟩
    · cases i with
      | zero => simp at e2
      | succ i =>
        have e1 : ys[i]? = some y := e1
        have e2 : (capσ σ js)[i]? = some (some v) := e2
        have hi : i < ys.length := (List.getElem?_eq_some_iff.mp e1).1
        have hy : y ∈ ys := List.mem_of_getElem? e1
        unfold capσ at e2
        rw [List.getElem?_map] at e2
        cases hj : js[i]? with
        | none => rw [hj] at e2; cases e2
        | some j =>
          rw [hj] at e2
          have e2 : (σ[j]?).getD none = some v := Option.some.inj e2
          have e4 : σ[j]? = some (some v) := by
            cases hq : σ[j]? with
            | none => rw [hq] at e2; cases e2
            | some q => rw [hq] at e2; exact congrArg some e2
          have e5 : X.N[j]? = some y := by
            have q1 : (js.map (fun j => X.N[j]?))[i]? = some (X.N[j]?) := by rw [List.getElem?_map, hj]; rfl
            rw [hjs, List.getElem?_map, e1] at q1
            exact (Option.some.inj q1).symm
          have hfree := hk.caps y hy
          have hkd := hk.free y (mem_of_lookupF hfree)
          obtain ⟨m, hn, hl⟩ := I3.loc
          obtain ⟨u, ru, lk⟩ := hl j y v e5 e4 (by
            rcases hkd with z | z
            · exact .inr (.inl z)
            · exact .inr (.inr z))
          refine ⟨u, ru, ?_⟩
          rcases lk with ⟨k1, _⟩ | ⟨_, c, e6, z⟩
          · rcases hkd with q | q <;> rw [q] at k1 <;> cases k1
          · right
            refine ⟨relabel_free scope.names y hfree, c, ?_, ?_⟩
            · obtain ⟨c', hc'⟩ := capt_some (env := X.env) scope.names [] y (.inl (mem_of_lookupF hfree))
              have := (capEnv y c' hc').2
              rw [e6] at this
              have e7 : c = c' := Option.some.inj this
              rw [e7]
              exact hc'
            · obtain ⟨o, ho, hd⟩ := z
              exact ⟨o, old c o ho, hd⟩
    · obtain ⟨v, o, ho, hd⟩ := I3.cell a c (capEnv a c e).2
      exact ⟨v, o, old c o ho, hd⟩
    · exact I3.hok.fresh (Nat.le_refl _)
    · cases hp
    · show (capσ σ js).length + 1 = ys.length + 1
      rw [hlen]
  have stat : ∀ {H' : Hp}, (∀ b ∈ fp, H' b = none) → ∀ b ∈ fp, FpOk (cxC X scope (x :: ys) s3 H3 s3.heap.objs.size fp) [] H' b := fun hn b hb =>
    ⟨hn b hb, (ok'.exf b hb).1, ok'.exfs b hb, .inl hb, fun a c e => (ok'.exf b hb).2 a c e, fun p hp => (by cases hp)⟩
  have fr0 : ∀ b ∈ fp, H3 b = none := fun b hb => by
    obtain ⟨o, e, _⟩ := fps b hb
    rw [← hH3, upd_ne (Nat.ne_of_lt (Heap.lt_size e))]
    exact (fpo b hb).1
  have loop : ∀ t', codeAny (model X.prog X.w) X.A (.compLoop (.ListComp elt [⟨.Name x px, iter, ifs, 0⟩] scope pos) 0 (.ref it) (.ref s2.heap.objs.size) (compEnvC scope (capt scope X.env) s3.heap.objs.size X.env))
      (RR (.ref s2.heap.objs.size) s3.heap.objs.size) { s2 with heap := h₁, toks := t' } := fun t' => by
    rw [show ({ s2 with heap := h₁, toks := t' } : Shared) = { s3 with heap := h₁, toks := t' } by rw [← hs3]]
    refine compLoop_own (fun n s' => ∃ i v H', Inv (cxC X scope (x :: ys) s3 H3 s3.heap.objs.size fp) [] (v :: capσ σ js) H' s' ∧ tn i s'.heap ∧ (∀ b ∈ fp, H' b = none) ∧ W i n H') ?_ m0
      ⟨0, none, H3, I4 t', T.keep _ _ _ st fun b hb o e => old b o (old2 b o e), fr0, w0⟩
    rintro n s5 ⟨i, v5, H5, I5, st5, fr5, w5⟩
    rcases turn i n H5 w5 with ⟨stop, qn⟩ | ⟨go, step⟩
    · refine thn (T.done (cxC X scope (x :: ys) s3 H3 s3.heap.objs.size fp) rfl rfl rfl hc i [] s5 _ H5 _ I5 (stat fr5) st5 stop) fun r s6 ⟨hr, I6⟩ => ?_
      subst hr
      refine hRR _ _ _ H5 (I3.call' (ch := fp) I6.os I6.base I6.hok I6.bare fun b hb => ⟨(fpo b hb).2.2.2.1, (fpo b hb).2.1, (fpo b hb).2.2.2.2.1, (fpo b hb).2.2.2.2.2⟩) ⟨I6.free, ?_, ?_, I3.sz, ?_, ?_⟩ qn
      · obtain ⟨m, hn, _⟩ := I6.loc
        exact ⟨m, hn⟩
      · exact Nat.ne_of_gt I3.lt
      · intro a c e
        obtain ⟨v, o, ho, hd⟩ := I3.cell a c e
        exact Nat.ne_of_lt (Heap.lt_size ho)
      · intro p hp
        exact Nat.ne_of_lt (Heap.lt_size (I3.pin p hp).1)
    · refine thn (T.item (cxC X scope (x :: ys) s3 H3 s3.heap.objs.size fp) rfl rfl rfl hc i [] s5 _ H5 _ I5 (stat fr5) st5 go) fun r s6 ⟨u, hr, h6⟩ => ?_
      subst hr
      refine thn h6 fun _ s7 ⟨xv, H7, I7, r7, y7, st7, fr7⟩ => ?_
      have I7' := I7.pinned (stat fr7) (T.obj _ _ st7)
      have pg : PG (cxC X scope (x :: ys) s3 H3 s3.heap.objs.size fp) (.Name x px) (gName 0) := pg_name hnd rfl (.inl (lookup_relabel_local hk.own)) (.inr (lookup_relabel_local hk.own))
      refine wpAny_mono (pg _ s7 _ H7 xv u (fun σ8 H8 => σ8 = some xv :: capσ σ js ∧ H8 = H7) I7' r7 ⟨rfl, rfl⟩) (fun _ s8 ⟨σ8, H8, I8, e8, e8'⟩ => ?_) fun _ _ f => f.elim
      subst e8
      subst e8'
      refine wpAny_mono (ht _ _ _ _ _ s8 _ _ _ I8 (step xv _ y7)) (fun ok s9 hq_ => TPe hq_ fun H9 I9 q9 => ?_) fun _ _ f => f.elim
      have again : ∀ {σ' : St} {H' : Hp} {s' : Shared} {v' : Option V} {m' : Nat}, Inv (cxC X scope (x :: ys) s3 H3 s3.heap.objs.size fp) ([] ++ pinsAt fp s7.heap) (v' :: capσ σ js) H' s' → m' < n → W (i + 1) m' H' →
          ∃ m, m < n ∧ ∃ i v H', Inv (cxC X scope (x :: ys) s3 H3 s3.heap.objs.size fp) [] (v :: capσ σ js) H' s' ∧ tn i s'.heap ∧ (∀ b ∈ fp, H' b = none) ∧ W i m H' := fun {σ' H' s' v' m'} I' hm w' => by
        refine ⟨m', hm, i + 1, v', H', I'.unpinned, T.keep _ _ _ st7 fun b hb o e => (I'.pin (b, o) (List.mem_append_right _ (List.mem_append_right _ (mem_pinsAt hb e)))).1, fun b hb => ?_, w'⟩
        obtain ⟨o, e, d⟩ := T.obj _ _ st7 b hb
        exact (I'.pin (b, o) (List.mem_append_right _ (List.mem_append_right _ (mem_pinsAt hb e)))).2.1
      cases ok with
      | false =>
        rw [if_neg (by decide)] at q9
        rw [if_neg (by decide)]
        obtain ⟨m', hm, w'⟩ := q9
        exact again (σ' := []) I9 hm w'
      | true =>
        rw [if_pos rfl] at q9
        rw [if_pos rfl]
        refine wpAny_mono (he _ _ _ _ _ s9 _ _ _ I9 q9) (fun xe s10 hq_ => EPe hq_ fun v10 H10 I10 r10 q10 => ?_) fun _ _ f => f.elim
        obtain ⟨zs, m', hD, hz, hm, w'⟩ := q10
        refine wpAny_mono (mt_append (X := cxC X scope (x :: ys) s3 H3 s3.heap.objs.size fp) _ s10 _ H10 (.ref s2.heap.objs.size) [v10] _ _ (fun _ H' => H' = upd H10 s2.heap.objs.size (.lst (zs ++ [v10]))) I10 rfl (.cons r10 .nil) ⟨_, zs, v10, rfl, rfl, hD, hz, rfl⟩)
          (fun _ s11 ⟨_, H11, I11, _, e11⟩ => ?_) fun _ _ f => f.elim
        subst e11
        exact again (σ' := []) I11 hm w'
  exact codeAny_compStart_list (loop _) (T.self _ 0 _ _ _ (T.keep _ _ _ st fun b hb o e => old b o (old2 b o e)) (loop _))
theorem AfterC.turn {pins : List (Addr × Obj)} {σ : St} {H : Hp} {s : Shared} {C : Addr} {h' : Heap} (I : Inv X pins σ H s) (a : AfterC X pins H s C) (hs : Heap.SameBut C s.heap h') : Inv X pins σ H { s with heap := h' } :=
  I.turned (t' := s.toks) (fun b o hb e => hs.extBut b o hb e) a.free a.ne (.inr a.ab) a.cells a.pins
theorem pe_comp {elt iter : Expr} {x : Str} {px pos : Pos} {ifs : List Expr} {scope : Scope} (ys : List Str) (js : List Nat) {wi : TI} {tt : TT} {te : TE}
    (hi : PI X (.Name x px) iter wi) (ht : ∀ s H C ex, PTs (cxC X scope (x :: ys) s H C ex) ifs tt) (he : ∀ s H C ex, PE (cxC X scope (x :: ys) s H C ex) elt te)
    (hk : compOk scope X.env x ys = true := by rfl) (hnd : (x :: ys).Nodup := by decide +kernel) (hjs : js.map (fun j => X.N[j]?) = ys.map some := by rfl) (hc : X.calm = true := by rfl)
    (hs : ∀ x, foldedSetIterable iter X.env x = pure x := by intro _; rfl) : PE X (.ListComp elt [⟨.Name x px, iter, ifs, 0⟩] scope pos) (tComp wi tt te js) := by
  intro pins s σ H Q I h
  have hk' := compOk_of hk
  rw [eval_ListComp]
  refine wpAny_comprehension_free (use := none) rfl hs (closure_capt fun n hn => I.ok.has n (hk'.free n hn)) hk'.kind hk'.names (thn (hi pins s σ H _ I h) fun v s1 h1 => thn h1 fun itv s2 h2 => ?_)
  obtain ⟨it, fp, tn, J, H2, e, I2, T, st2, f2, q⟩ := h2
  subst e
  refine comp_block (RR := fun acc C => compPost (model X.prog X.w) X.A X.xe none (EP X pins σ Q) acc C) hk' hnd hjs hc ht he I2 T st2 f2 q fun D C s' H' I' a q' => ?_
  obtain ⟨m, hn⟩ := a.ns
  exact ⟨m, hn, fun h' hs' => ⟨.ref D, H', a.turn I' hs', rfl, q'⟩⟩
theorem ps_setC {i : Nat} {y : Str} {py spos : Pos} {elt iter : Expr} {x : Str} {px pos : Pos} {ifs : List Expr} {scope : Scope} (ys : List Str) (js : List Nat) {wi : TI} {tt : TT} {te : TE}
    (hN : X.N.Nodup) (hy : X.N[i]? = some y) (hyl : X.env.scope.names.lookup y = some .local)
    (hi : PI X (.Name x px) iter wi) (ht : ∀ s H C ex, PTs (cxC X scope (x :: ys) s H C ex) ifs tt) (he : ∀ s H C ex, PE (cxC X scope (x :: ys) s H C ex) elt te)
    (hsw : swapsWith (.ListComp elt [⟨.Name x px, iter, ifs, 0⟩] scope pos) (some (.Name y py)) spos.line X.env = pure true := by rfl)
    (hk : compOk scope X.env x ys = true := by rfl) (hnd : (x :: ys).Nodup := by decide +kernel) (hjs : js.map (fun j => X.N[j]?) = ys.map some := by rfl) (hc : X.calm = true := by rfl)
    (hs : ∀ x, foldedSetIterable iter X.env x = pure x := by intro _; rfl) : PS X (.Assign [.Name y py] (.ListComp elt [⟨.Name x px, iter, ifs, 0⟩] scope pos) spos) (tAsg (tComp wi tt te js) (gName i)) := by
  intro pins s σ H D I h
  have hk' := compOk_of hk
  rw [exec_Assign_Name_used _ _ _ _ hsw]
  refine wpAny_bind (wpAny_standAt (wpAny_bind ?_))
  show wpAny _ X.A (do let _ ← comprehension (.ListComp elt [⟨.Name x px, iter, ifs, 0⟩] scope pos) scope X.env _ (newList []) false (eval iter X.env) (some (assign (.Name y py) X.env))) _ _ s
  refine wpAny_bind (wpAny_mono (wpAny_comprehension_free (use := some (assign (.Name y py) X.env)) (Q := fun _ s' => SP X pins D .next s') rfl hs (closure_capt fun n hn => I.ok.has n (hk'.free n hn)) hk'.kind hk'.names
    (thn (hi pins s σ H _ I h) fun v s1 h1 => thn h1 fun itv s2 h2 => ?_)) (fun _ s' hq => wpAny_pure (wpAny_pure hq)) fun _ _ e => e)
  obtain ⟨it, fp, tn, J, H2, e, I2, T, st2, f2, q⟩ := h2
  subst e
  refine comp_block (RR := fun acc C => compPost (model X.prog X.w) X.A X.xe (some (assign (.Name y py) X.env)) (fun _ s' => SP X pins D .next s') acc C) hk' hnd hjs hc ht he I2 T st2 f2 q fun Dl C s' H' I' a q' => ?_
  obtain ⟨m, hn⟩ := a.ns
  show wpAny _ X.A (assign (.Name y py) X.env (.ref Dl)) _ _ _
  refine wpAny_assign_Name (store_ok2 I' hN hy (.inl hyl) (show RelV (.ref Dl) (.ref Dl) from rfl) (fun s'' I'' hch => ?_) (.inr hyl))
  obtain ⟨a', hsb, ha'⟩ := hch
  have hne : C ≠ a' := by
    rcases ha' with z | z
    · rw [z]; exact a.ne
    · exact (a.cells y a' z).symm
  refine ⟨m, hn.sameBut hsb hne, fun h' hs' => ⟨_, H', ?_, q'⟩⟩
  exact AfterC.turn (C := C) I'' ⟨a.free, ⟨m, hn.sameBut hsb hne⟩, a.ne, a.ab, a.cells, a.pins⟩ hs'
end
end L2

namespace L2
open PySem PySem.Spec PyProof.Rows
structure Def (P : Program) (w : World) (K : PySem.W.Frag) (mg : Str → Option Value) (base : Heap) (k : Nat) (x : Str) (ps : List Str) (sp : Sp) : Prop where
  ex : ∃ (f : Addr) (fd : FuncData), FnOk P w K mg base CX0 k f fd ps sp ∧ mg x = some (.ref f) ∧ PySem.W.keepIn K (.ref f) = true ∧ Binds K fd ps []
structure DefM (P : Program) (w : World) (K : PySem.W.Frag) (mg : Str → Option Value) (base : Heap) (k : Nat) (C : Addr) (m : Str) (ps : List Str) (sp : Sp) : Prop where
  ex : ∃ (f : Addr) (fd : FuncData), FnOk P w K mg base CX0 k f fd ps sp ∧ Meth K C m f ∧ Binds K fd ps []
structure DefC (P : Program) (w : World) (K : PySem.W.Frag) (mg : Str → Option Value) (base : Heap) (k : Nat) (C : Addr) (x : Str) (ps : List Str) (sp : Sp) : Prop where
  ex : ∃ (f : Addr) (fd : FuncData), FnOk P w K mg base CX0 k f fd ps sp ∧ Mk K C f ∧ Binds K fd ps [] ∧ mg x = some (.ref C)
section
variable {X : Cx} {k : Nat} {x m : Str} {ps : List Str} {sp : Sp} {C : Addr} {e o : Expr} {es : List Expr} {t : TA} {ta : TE} {p pos apos : Pos}
theorem pe_def (D : Def X.prog X.w X.K X.mg X.base k x ps sp) (hr : Room k X.A) (ha : PA X (e :: es) t) (hg : Gl X x := by rfl) (hdb : (x == ("__debug__" : Str)) = false := by decide)
    (he : starEach (e :: es) X.env = (false, eval e X.env) :: starEach es X.env := by rfl) (hpl : (backTo pos (starEach es X.env)).any (·.1) = false := by rfl) :
    PE X (.Call (.Name x p) (e :: es) [] pos) (tCall sp [] E0 t) := by
  obtain ⟨f, fd, F, hm, hk, hb⟩ := D.ex
  exact pe_call F hr hg hm hk hb .nil pass0 ha hdb he hpl
theorem pe_defM0 {pl : Sem Bool} (D : DefM X.prog X.w X.K X.mg X.base k C m ps sp) (c : Cls X.K C) (hr : Room k X.A) (ho : PE X o ta)
    (ht : eval (.Call (.Attribute o m apos) [] [] pos) X.env = (do
      let ov ← eval o X.env
      standAt apos.atName
      let (f, first) ← holding [ov] (getMethod ov m pl)
      callWith pos f first (backTo pos (starEach [] X.env)) (backToKw pos (keywordEach [] X.env))) := by rfl) :
    PE X (.Call (.Attribute o m apos) [] [] pos) (tMeth C m sp [] E0 ta tNil) := by
  obtain ⟨f, fd, F, hm, hb⟩ := D.ex
  exact pe_meth0 ho c hm F hr hb .nil pass0 ht
end
section
variable {X : Cx} {K : PySem.W.Frag}
theorem op_eqSK (h : X.K = K) (hu : X.A.units < cLine) : OpR X (compareOp .Eq) (rSqEq K) := h ▸ op_eqS hu
end
theorem same_new {H : Hp} {p : Addr} (h : H p = none) (o : HO) : Same H (upd H p o) := fun b u q => by rw [upd_ne (ne_of_none q h)]; exact q
noncomputable def But (d : Addr) (H H' : Hp) : Prop := ∀ b o, H b = some o → b ≠ d → H' b = some o
theorem But.upd {H : Hp} {d : Addr} {o : HO} : But d H (L2.upd H d o) := fun b u q hb => by rw [upd_ne hb]; exact q
theorem small {n : Nat} (h : n ≤ 1000) : n ≤ sizeLine := Nat.le_of_lt (small1000 h)
noncomputable def Scr (K : PySem.W.Frag) (H : Hp) (a : Addr) (ns : List Int) : Prop := (∃ o, H a = some (.frz o (.lst (ns.map V.int)))) ∨
  ∃ (o : Obj) (its : Array Value) (n : Nat), K.lookup a = some o ∧ o.cls = .type "list" ∧ o.dict = none ∧ o.data = .seq its n ∧ its.size ≤ sizeLine ∧ Vals (ns.map V.int) its.toList
theorem Scr.sq {K : PySem.W.Frag} {H : Hp} {a : Addr} {ns : List Int} (h : Scr K H a ns) : SqL K H a (ns.map V.int) := by
  rcases h with ⟨o, h⟩ | h
  · exact .inl (.inr ⟨o, h⟩)
  · exact .inr h
theorem Scr.of {K : PySem.W.Frag} {H : Hp} {a : Addr} {ns : List Int} (o : Only H) (h : SqL K H a (ns.map V.int)) : Scr K H a ns := by
  rcases h with h | h
  · rcases o a with q | ⟨ob, xs, q⟩
    · rcases h with h | ⟨ob, h⟩
      · rw [q] at h; cases h
      · rw [q] at h; cases h
    · rcases h with h | ⟨ob', h⟩
      · rw [q] at h; cases h
      · exact .inl ⟨ob', h⟩
  · exact .inr h
theorem Scr.same {K : PySem.W.Frag} {H H' : Hp} {a : Addr} {ns : List Int} (h : Scr K H a ns) (s : Same H H') : Scr K H' a ns := by
  rcases h with ⟨o, h⟩ | h
  · exact .inl ⟨o, s _ _ h⟩
  · exact .inr h
theorem get_int {ns : List Int} {i : Nat} (h : i < ns.length) : (ns.map V.int)[i]? = some (.int (ns.getD i 0)) := by
  rw [List.getElem?_map, List.getElem?_eq_getElem h]
  simp [List.getD, h]
theorem atI_int {ns : List Int} {k : Int} (h0 : 0 ≤ k) (h : k < (ns.length : Int)) : atI (ns.map V.int) k = some (.int (ns.getD k.toNat 0)) := by
  have e : k = ((k.toNat : Nat) : Int) := by (first | with_reducible assumption | lia | omega)
  rw [e]
  exact atI_nat (get_int (by (first | with_reducible assumption | lia | omega)))
theorem ixN_int {n : Nat} {k : Int} (h0 : 0 ≤ k) (h : k < (n : Int)) : ixN n k = some k.toNat := by
  unfold ixN
  rw [if_pos h0, if_pos h]
theorem cut_hi (ns : List Int) {k : Int} (h0 : 0 ≤ k) (h : k ≤ (ns.length : Int)) : cutV (ns.map V.int) (some k) none = (ns.drop k.toNat).map V.int := by
  have e : k = ((k.toNat : Nat) : Int) := by (first | with_reducible assumption | lia | omega)
  unfold cutV
  rw [e, HT.sIx_none, HT.sIx_nat, List.length_map, Nat.min_eq_left (by (first | with_reducible assumption | lia | omega)), List.map_drop, List.take_of_length_le (by rw [List.length_drop, List.length_map]; exact Nat.le_refl _)]
  rfl
theorem cut_both (ns : List Int) {j k : Int} (h0 : 0 ≤ j) (h1 : j ≤ k) (h : k ≤ (ns.length : Int)) : cutV (ns.map V.int) (some j) (some k) = ((ns.drop j.toNat).take (k.toNat - j.toNat)).map V.int := by
  have e : k = ((k.toNat : Nat) : Int) := by (first | with_reducible assumption | lia | omega)
  have e' : j = ((j.toNat : Nat) : Int) := by (first | with_reducible assumption | lia | omega)
  unfold cutV
  rw [e, e', HT.sIx_nat, HT.sIx_nat, List.length_map, Nat.min_eq_left (by (first | with_reducible assumption | lia | omega)), Nat.min_eq_left (by (first | with_reducible assumption | lia | omega)), List.map_take, List.map_drop]
  rfl
theorem int_of {ns : List Int} {i : Nat} {x : V} (h : (ns.map V.int)[i]? = some x) : ∃ z, x = V.int z := by
  rw [List.getElem?_map] at h
  cases e : ns[i]? with
  | none => rw [e] at h; cases h
  | some z => rw [e] at h; exact ⟨z, (Option.some.inj h).symm⟩
section
variable {tt : TT} {te : TE} {τ : St} {H1 : Hp} {Q : VK}
theorem comp_rangeG {lo : Int} {n : Nat} (keep : Nat → Bool) (val : Nat → V) (hn : n ≤ 1000)
    (ht : ∀ (i : Nat) (H : Hp) (Q' : Bool → Hp → Prop), i < n → Same H1 H → (∀ H', Same H H' → Q' (keep i) H') → tt (some (.int (lo + i)) :: τ) H Q')
    (he : ∀ (i : Nat) (H : Hp) (Q' : VK), i < n → keep i = true → Same H1 H → (∀ H', Same H H' → Q' (val i) H') → te (some (.int (lo + i)) :: τ) H Q')
    (q : ∀ D H', Same H1 H' → H1 D = none → H' D = some (.lst (((List.range n).filter keep).map val)) → Q (.ref D) H') : tCompF (Itr lo n) tt te τ H1 Q := by
  intro D hD
  refine ⟨fun i m H => i ≤ n ∧ m = n - i ∧ Same H1 H ∧ H D = some (.lst (((List.range i).filter keep).map val)), ⟨n, Nat.zero_le _, rfl, same_new hD _, upd_same⟩, ?_⟩
  rintro i m H ⟨hi, hm, s, e⟩
  have hlen : (((List.range i).filter keep).map val).length ≤ 1000 := by
    rw [List.length_map]
    have := List.length_filter_le keep (List.range i)
    rw [List.length_range] at this
    (first | with_reducible assumption | lia | omega)
  by_cases hlt : i < n
  · refine .inr ⟨hlt, fun x H' hy => ?_⟩
    obtain ⟨e1, e2⟩ := hy
    subst e1
    subst e2
    refine ht i H' _ hlt s fun H0 s0 => ?_
    cases hk : keep i with
    | true =>
      refine iteT ?_
      refine he i H0 _ hlt hk (s.trans s0) fun H2 s2 => ?_
      refine ⟨_, n - (i + 1), s2 _ _ (s0 _ _ e), small1000 hlen, by (first | with_reducible assumption | lia | omega), by (first | with_reducible assumption | lia | omega), rfl, fun b o z => ?_, ?_⟩
      · rw [upd_ne (ne_of_none z hD)]; exact s2 _ _ (s0 _ _ (s _ _ z))
      · rw [upd_same, List.range_succ, List.filter_append, List.map_append]
        simp [hk]
    | false =>
      refine iteF ?_
      refine ⟨n - (i + 1), by (first | with_reducible assumption | lia | omega), by (first | with_reducible assumption | lia | omega), rfl, s.trans s0, ?_⟩
      rw [s0 _ _ e, List.range_succ, List.filter_append, List.map_append]
      simp [hk]
  · have e3 : i = n := by (first | with_reducible assumption | lia | omega)
    subst e3
    exact .inl ⟨Nat.le_refl _, q D H s hD e⟩
theorem comp_range {lo : Int} {n : Nat} (keep : Nat → Bool) (val : Nat → V) (hn : n ≤ 1000)
    (ht : ∀ (i : Nat) (H : Hp) (Q' : Bool → Hp → Prop), i < n → Same H1 H → Q' (keep i) H → tt (some (.int (lo + i)) :: τ) H Q')
    (he : ∀ (i : Nat) (H : Hp) (Q' : VK), i < n → keep i = true → Same H1 H → (∀ H', Same H H' → Q' (val i) H') → te (some (.int (lo + i)) :: τ) H Q')
    (q : ∀ D H', Same H1 H' → H1 D = none → H' D = some (.lst (((List.range n).filter keep).map val)) → Q (.ref D) H') : tCompF (Itr lo n) tt te τ H1 Q :=
  comp_rangeG keep val hn (fun i H Q' hi s z => ht i H Q' hi s (z H (Same.refl H))) he q
theorem comp_listG {K : PySem.W.Frag} {a : Addr} {xs : List V} (keep : V → Bool) (val : V → V) (hn : xs.length ≤ 10000) (hl : SqL K H1 a xs)
    (ht : ∀ (x : V) (H : Hp) (Q' : Bool → Hp → Prop), x ∈ xs → Same H1 H → (∀ H', Same H H' → Q' (keep x) H') → tt (some x :: τ) H Q')
    (he : ∀ (x : V) (H : Hp) (Q' : VK), x ∈ xs → keep x = true → Same H1 H → (∀ H', Same H H' → Q' (val x) H') → te (some x :: τ) H Q')
    (q : ∀ D H', Same H1 H' → H1 D = none → H' D = some (.lst ((xs.filter keep).map val)) → Q (.ref D) H') : tCompF (Itl K a) tt te τ H1 Q := by
  intro D hD
  refine ⟨fun i m H => i ≤ xs.length ∧ m = xs.length - i ∧ Same H1 H ∧ H D = some (.lst (((xs.take i).filter keep).map val)), ⟨xs.length, Nat.zero_le _, rfl, same_new hD _, upd_same⟩, ?_⟩
  rintro i m H ⟨hi, hm, s, e⟩
  have hlen : (((xs.take i).filter keep).map val).length ≤ 10000 := by
    rw [List.length_map]
    have := List.length_filter_le keep (xs.take i)
    rw [List.length_take] at this
    (first | with_reducible assumption | lia | omega)
  by_cases hlt : i < xs.length
  · have hx : xs[i]? = some xs[i] := List.getElem?_eq_getElem hlt
    refine .inr ⟨⟨xs, xs[i], s.seq hl, hx⟩, fun x H' hy => ?_⟩
    obtain ⟨e1, e2⟩ := hy
    subst e1
    have e3 := e2 xs (s.seq hl)
    rw [hx] at e3
    have e4 : xs[i] = x := Option.some.inj e3
    have hm' : x ∈ xs := e4 ▸ List.getElem_mem hlt
    have tk : xs.take (i + 1) = xs.take i ++ [x] := by rw [List.take_succ, hx, e4]; rfl
    refine ht x H' _ hm' s fun H0 s0 => ?_
    cases hk : keep x with
    | true =>
      refine iteT ?_
      refine he x H0 _ hm' hk (s.trans s0) fun H2 s2 => ?_
      refine ⟨_, xs.length - (i + 1), s2 _ _ (s0 _ _ e), Nat.lt_of_le_of_lt hlen (by decide), by (first | with_reducible assumption | lia | omega), by (first | with_reducible assumption | lia | omega), rfl, fun b o z => ?_, ?_⟩
      · rw [upd_ne (ne_of_none z hD)]; exact s2 _ _ (s0 _ _ (s _ _ z))
      · rw [upd_same, tk, List.filter_append, List.map_append]
        simp [hk]
    | false =>
      refine iteF ?_
      refine ⟨xs.length - (i + 1), by (first | with_reducible assumption | lia | omega), by (first | with_reducible assumption | lia | omega), rfl, s.trans s0, ?_⟩
      rw [s0 _ _ e, tk, List.filter_append, List.map_append]
      simp [hk]
  · have e3 : i = xs.length := by (first | with_reducible assumption | lia | omega)
    subst e3
    rw [List.take_length] at e
    exact .inl ⟨⟨xs, s.seq hl, Nat.le_refl _⟩, q D H s hD e⟩
end
end L2

namespace L2
open PySem PySem.Spec PyProof.Rows
section
variable {prog : Program} {w : World} {A : Around} {E : Value → Shared → Prop} {s : Shared}
end
theorem rs_up (i j : Int) : Builtin.Range.rangeSize i j 1 = ((j - i).toNat : Int) := by
  unfold Builtin.Range.rangeSize
  rw [if_pos (by decide)]
  split <;> (first | with_reducible assumption | lia | omega)
section
variable {X : Cx} {tg : Expr}
end
section
variable {prog : Program} {w : World} {A : Around} {E : Value → Shared → Prop} {s : Shared}
end
section
variable {prog : Program} {w : World} {A : Around} {s : Shared} {R : Result → Shared → Prop}
end
section
variable {prog : Program} {w : World} {A : Around} {E : Value → Shared → Prop} {s : Shared}
end
section
variable {X : Cx} {e : Expr} {te : TE} {p p2 pos pos2 : Pos}
end
theorem vals_at : ∀ (xs : List V) (us : List Value), xs.length = us.length → (∀ (i : Nat) (x : V) (u : Value), xs[i]? = some x → us[i]? = some u → RelV x u) → Vals xs us
  | [], [], _, _ => .nil
  | x :: xs, u :: us, hl, h => .cons (h 0 x u rfl rfl) (vals_at xs us (by simpa using hl) fun i y v h1 h2 => h (i + 1) y v h1 h2)
  | [], _ :: _, hl, _ => by cases hl
  | _ :: _, [], hl, _ => by cases hl
section
variable {X : Cx} {a : Expr} {ta : TA} {p p2 pos pos2 : Pos}
noncomputable def tListRange (ta : TA) : TE := fun σ H Q => ta σ H fun vs H1 => ∃ n : Nat, vs = [.int (n : Int)] ∧ n ≤ 1000000 ∧ ∀ l, H1 l = none → Q (.ref l) (upd H1 l (.lst ((List.range n).map fun i : Nat => V.int (i : Int))))
theorem pe_listRange (hc : X.calm = true) (hg : Gl X "list") (hm : X.mg "list" = none) (hgr : Gl X "range") (hmr : X.mg "range" = none) (ha : PA X [a] ta) (h1 : starEach [a] X.env = [(false, eval a X.env)] := by rfl)
    (h2 : starEach [.Call (.Name "range" p2) [a] [] pos2] X.env = [(false, eval (.Call (.Name "range" p2) [a] [] pos2) X.env)] := by rfl) :
    PE X (.Call (.Name "list" p) [.Call (.Name "range" p2) [a] [] pos2] [] pos) (tListRange ta) := by
  intro pins s σ H Q I h
  refine wpAny_Call_Name_kw (ld_blt I hg hm boot_list (PyProof.Rows.callWith_type1 ?_ h2 rfl) (by decide) (by decide))
  rw [h2]
  show wpAny _ _ (spliced ((false, eval (.Call (.Name "range" p2) [a] [] pos2) X.env) :: backTo pos [])) _ _ s
  refine Calls.spliced_cons (Call_ (ld_blt I hgr hmr boot_range (PyProof.Rows.callWith_type1 (thn (ha pos2 pins s σ H _ I h) fun us s1 hq_ => APe hq_ fun vs H1 I1 r1 q1 => ?_) h1 rfl)))
  obtain ⟨n, rfl, hn, q⟩ := q1
  obtain ⟨u, rfl, t, rfl⟩ := vals1 r1
  refine call_range_1 (Calls.spliced_nil ?_)
  have hsm : Builtin.Range.small 0 (n : Int) 1 = true := small_one (by (first | with_reducible assumption | lia | omega)) (by (first | with_reducible assumption | lia | omega)) (by (first | with_reducible assumption | lia | omega)) (by (first | with_reducible assumption | lia | omega))
  refine call_list_range (n := n) (I1.ok.hd hc) (IsRange.new ..) hsm (by rw [rs_up]; (first | with_reducible assumption | lia | omega)) (by (first | with_reducible assumption | lia | omega)) fun h' tk acc c kp eL hacc => ?_
  have hz : n ≤ sizeLine := Nat.le_trans hn (by decide)
  refine ⟨.ref _, _, I1.laid (t' := tk) (fun b o z => kp b o (Heap.get?_push_of_some _ z)) (by rw [Heap.size_push]; (first | with_reducible assumption | lia | omega)) (show ObjOk X.prog X.w _ h' _ (.lst ((List.range n).map fun i : Nat => V.int (i : Int))) from ⟨by rw [List.length_map, List.length_range]; exact hz, acc.toList, c, vals_at _ _ ?_ ?_, by rw [eL]⟩), rfl, q _ (I1.hok.fresh (by rw [Heap.size_push]; (first | with_reducible assumption | lia | omega)))⟩
  · rw [List.length_map, List.length_range, Array.length_toList, hacc.1]
  · intro i x u hx hu
    have hi : i < n := by
      have := (List.getElem?_eq_some_iff.mp hx).1
      rw [List.length_map, List.length_range] at this
      exact this
    rw [List.getElem?_map, List.getElem?_range hi] at hx
    have ex : V.int (i : Int) = x := Option.some.inj hx
    rw [Array.getElem?_toList] at hu
    obtain ⟨t2, e2⟩ := hacc.2 i u hu
    have e3 : (0 : Int) + (i : Int) * 1 = i := by (first | with_reducible assumption | lia | omega)
    rw [e3] at e2
    rw [← ex]
    exact ⟨t2, e2⟩
end
end L2

namespace L2
open PySem PySem.Spec PyProof.Rows
section
variable {prog : Program} {w : World} {A : Around} {R : Result → Shared → Prop} {it S : Addr} {fp wr : List Addr} {n : Nat} {P : Nat → Value → Prop} {St : Nat → Heap → Prop} {G : Heap → Prop} {bt : Nat → Nat → Bool}
end
section
variable {prog : Program} {w : World} {A : Around} {E : Value → Shared → Prop} {s : Shared}
end
theorem lex_irr : ∀ x : List Int, HT.lexLt x x = false
  | [] => rfl
  | a :: x => by rw [HT.lexLt_cons, if_pos rfl]; exact lex_irr x
theorem lex_trans : ∀ {x y z : List Int}, HT.lexLt x y = true → HT.lexLt y z = true → HT.lexLt x z = true
  | [], [], _, h, _ => by cases h
  | [], _ :: _, [], _, h => by cases h
  | [], _ :: _, _ :: _, _, _ => rfl
  | _ :: _, [], _, h, _ => by cases h
  | _ :: _, _ :: _, [], _, h => by cases h
  | a :: x, b :: y, c :: z, h1, h2 => by
    rw [HT.lexLt_cons] at h1 h2 ⊢
    by_cases e1 : a = b
    · subst e1
      rw [if_pos rfl] at h1
      by_cases e2 : a = c
      · rw [if_pos e2] at h2 ⊢
        exact lex_trans h1 h2
      · rw [if_neg e2] at h2 ⊢
        exact h2
    · rw [if_neg e1] at h1
      have h1 := of_decide_eq_true h1
      by_cases e2 : b = c
      · subst e2
        rw [if_neg e1]
        exact decide_eq_true h1
      · rw [if_neg e2] at h2
        have h2 := of_decide_eq_true h2
        rw [if_neg (by (first | with_reducible assumption | lia | omega))]
        exact decide_eq_true (by (first | with_reducible assumption | lia | omega))
theorem lex_total : ∀ {x y : List Int}, x.length = y.length → HT.lexLt x y = false → HT.lexLt y x = false → x = y
  | [], [], _, _, _ => rfl
  | [], _ :: _, h, _, _ => by cases h
  | _ :: _, [], h, _, _ => by cases h
  | a :: x, b :: y, h, h1, h2 => by
    rw [HT.lexLt_cons] at h1 h2
    by_cases e : a = b
    · subst e
      rw [if_pos rfl] at h1 h2
      rw [lex_total (by simpa using h) h1 h2]
    · rw [if_neg e] at h1
      rw [if_neg (fun z => e z.symm)] at h2
      have h1 := of_decide_eq_false h1
      have h2 := of_decide_eq_false h2
      (first | with_reducible assumption | lia | omega)
section
variable {X : Cx}
end
end L2

namespace L2
open PySem PySem.Spec PyProof.Rows
theorem count_eqU {x : V} : ∀ {xs : List V} {us : List Value}, Vals xs us → xs.all flatV = true → us.countP (eqU x) = xs.countP fun y => eqV y x
  | [], [], .nil, _ => rfl
  | y :: xs, u :: us, .cons r rr, h => by
    rw [List.all_cons, Bool.and_eq_true] at h
    rw [List.countP_cons, List.countP_cons, count_eqU rr h.2, eqU_of r h.1]
section
variable {X : Cx}
inductive IrCount  (x : V) (vs : List V) (H : Hp) (Q : VK) : Prop where
  | mk (l : Addr) (xs : List V) (y : V) (h0 : x = .ref l) (h1 : vs = [y]) (h2 : H l = some (.lst xs)) (h3 : xs.all flatV = true) (h4 : flatV y = true) (h5 : Q (.int ((xs.countP fun z => eqV z y : Nat) : Int)) H) : IrCount  x vs H Q
noncomputable def rCount : V → List V → Hp → VK → Prop := fun x vs H Q => IrCount  x vs H Q
theorem mt_count : MtM X "list.count" rCount := by
  intro pins s σ H x vs v us Q I rx rv h
  obtain ⟨l, xs, y, rfl, rfl, hH, fx, fy, q⟩ := h
  cases rx
  obtain ⟨u, rfl, ru⟩ := rv.one
  obtain ⟨z, its, n, r, hl, e⟩ := I.lstM hH
  refine call_meets F.slot_list_count ⟨_, e, rfl⟩ F.entry_list_count (F.args_list_count_2 _ _) (SeqAt.list_countAt l its.toArray n none #[] u (eqU y)) ⟨e, fun w hw => mem_eqAt ru fy r fx w (by simpa using hw), ?_⟩
  have hc : (its.toArray.toList.countP (eqU y)) = xs.countP fun z => eqV z y := by
    rw [List.toList_toArray]
    exact count_eqU r fx
  rw [hc]
  exact ⟨.int _, H, I.tok _, ⟨_, rfl⟩, q⟩
end
section
variable {te : TE} {τ : St} {H1 : Hp} {Q : VK}
end
end L2

namespace L2
open PySem PySem.Spec PyProof.Rows
section
variable {X : Cx}
inductive IrSortedL (K : PySem.W.Frag) (xs : List V) (H : Hp) (Q : VK) : Prop where
  | mk (p : Addr) (ns : List Int) (h0 : xs = [.ref p]) (h1 : SqL K H p (ns.map V.int)) (h2 : ns.length < 64) (h3 : ∀ (l : Addr) (ms : List Int), H l = none → ms.Perm ns → ms.Pairwise (· ≤ ·) → Q (.ref l) (upd H l (.lst (ms.map V.int)))) : IrSortedL K xs H Q
noncomputable def rSortedL (K : PySem.W.Frag) : List V → Hp → VK → Prop := fun xs H Q => IrSortedL K xs H Q
theorem call_sortedL : CallR X (.builtin "sorted") (rSortedL X.K) := by
  intro pins s σ H xs us Q I r h
  obtain ⟨p, ns, rfl, hq, hl, q⟩ := h
  obtain ⟨u, rfl, rx⟩ := vals1 r
  cases rx
  obtain ⟨its, r', pl, hz⟩ := I.list hq
  have hi := intsAre_of r'
  have hlen := r'.length
  rw [List.length_map] at hlen
  refine sorted_ints pl.isList hi (by (first | with_reducible assumption | lia | omega)) fun out ns' a1 a2 a3 => ?_
  obtain ⟨e, he⟩ := sortedAll_at s.heap its out
  have hn : ns'.length ≤ sizeLine := by
    rw [a2.length_eq, ← List.length_map (f := V.int)]
    exact hz
  exact ⟨.ref (s.heap.objs.size + 1), _, I.laid (t' := s.toks) (fun b o z => sortedAll_old z) (Nat.le_succ _) (show ObjOk X.prog X.w _ _ _ (.lst (ns'.map V.int)) from ⟨by rw [List.length_map]; exact hn, out.toList, e, vals_ints a1, he⟩), rfl, q _ ns' (I.hok.fresh (Nat.le_succ _)) a2 a3⟩
noncomputable def CDivM (_ j : Int) : Prop := 0 < j ∧ j < 2 ^ 200
theorem op_fdivM : OpR X (binaryOp .FloorDiv) (rI CDivM fun i j => .int (i / j)) := opI fun i j _ _ _ _ _ hc q => by
  have h1 : (0 : Int) < j := hc.1
  have h2 : j < 2 ^ 200 := hc.2
  refine floordiv_int (by (first | with_reducible assumption | lia | omega)) (by rw [Int.fdiv_eq_ediv_of_nonneg i (by (first | with_reducible assumption | lia | omega))]; exact q) (.inl (PyProof.noPylong_of_log2 ?_))
  have hn : j.natAbs ≠ 0 := by (first | with_reducible assumption | lia | omega)
  have hlt : j.natAbs < 2 ^ 9000 := by
    have e : ((j.natAbs : Nat) : Int) = j := by (first | with_reducible assumption | lia | omega)
    have h3 : ((j.natAbs : Nat) : Int) < ((2 ^ 200 : Nat) : Int) := by rw [e]; exact_mod_cast h2
    exact Nat.lt_trans (Int.ofNat_lt.mp h3) (Nat.pow_lt_pow_right (by decide) (by decide))
  exact (Nat.log2_lt hn).mpr hlt
end
section
variable {X : Cx}
structure Nest (K : PySem.W.Frag) (H : Hp) (a b : Addr) (as bs : List Addr) : Prop where
  l : SqL K H a (as.map V.ref)
  r : SqL K H b (bs.map V.ref)
  len : as.length = bs.length
  at_ : ∀ (i : Nat) (c d : Addr), as[i]? = some c → bs[i]? = some d → ∃ xs : List V, SqL K H c xs ∧ SqL K H d xs ∧ xs.all flatV = true
theorem nest_at {pins : List (Addr × Obj)} {σ : St} {H : Hp} {s : Shared} {a b : Addr} {as bs : List Addr} {us ws : List Value} (I : Inv X pins σ H s) (N : Nest X.K H a b as bs) (hu : X.A.units + 1 < cLine) (r : Vals (as.map V.ref) us) (r' : Vals (bs.map V.ref) ws) :
    ∀ j (h1 : j < us.toArray.size) (h2 : j < ws.toArray.size), SeqAt.EqAt X.A.in1 s us.toArray[j] ws.toArray[j] true := by
  intro j h1 h2
  have l1 := r.length
  have l2 := r'.length
  rw [List.length_map] at l1 l2
  have k1 : j < as.length := by rw [l1]; simpa using h1
  have k2 : j < bs.length := by rw [l2]; simpa using h2
  obtain ⟨u, hu', ru⟩ := r.get (show (as.map V.ref)[j]? = some (.ref as[j]) by rw [List.getElem?_map, List.getElem?_eq_getElem k1]; rfl)
  obtain ⟨v, hv', rv⟩ := r'.get (show (bs.map V.ref)[j]? = some (.ref bs[j]) by rw [List.getElem?_map, List.getElem?_eq_getElem k2]; rfl)
  have q1 : us.toArray[j] = u := by
    have : us[j]? = some us[j] := List.getElem?_eq_getElem (by rw [← l1]; exact k1)
    rw [this] at hu'
    simpa using Option.some.inj hu'
  have q2 : ws.toArray[j] = v := by
    have : ws[j]? = some ws[j] := List.getElem?_eq_getElem (by rw [← l2]; exact k2)
    rw [this] at hv'
    simpa using Option.some.inj hv'
  obtain ⟨xs, g1, g2, fl⟩ := N.at_ j as[j] bs[j] (List.getElem?_eq_getElem k1) (List.getElem?_eq_getElem k2)
  rw [q1, q2, show u = .ref as[j] from ru, show v = .ref bs[j] from rv]
  generalize as[j] = c at g1
  generalize bs[j] = d at g2
  by_cases e : c = d
  · subst e
    exact SeqAt.EqAt.same _
  · obtain ⟨its, t1, pl, hz⟩ := I.list g1
    obtain ⟨its', t2, pl', hz'⟩ := I.list g2
    have m1 := t1.length
    have m2 := t2.length
    refine SeqAt.EqAt.of_refs e fun prog w E Q hq => ?_
    refine SeqAt.RcAt.lists (e := fun j => eqV (xs.getD j .non) (xs.getD j .non)) pl.isList pl'.isList (by simp only [List.size_toArray]; (first | with_reducible assumption | lia | omega)) (by first | exact hu | (show X.A.units < cLine; (first | with_reducible assumption | lia | omega))) (seqEq_at t1 t2 fl fl) prog w E Q ?_
    have et : (List.range its.toArray.size).all (fun j => eqV (xs.getD j .non) (xs.getD j .non)) = true := by
      rw [List.size_toArray, ← m1, eqLs_len rfl]
      exact eqLs_self fl
    rw [et]
    exact hq
noncomputable def rNestEq (K : PySem.W.Frag) (v : Bool) : R2 := fun x y H Q => ∃ a b as bs, x = .ref a ∧ y = .ref b ∧ Nest K H a b as bs ∧ Q (.bl v) H
theorem all_true (n : Nat) : (List.range n).all (fun _ => true) = true := by
  rw [List.all_eq_true]; intro _ _; rfl
theorem op_eqN (hu : X.A.units + 1 < cLine) : OpR X (compareOp .Eq) (rNestEq X.K true) := by
  intro pins s σ H x y v u Q I rx ry h
  obtain ⟨a, b, as, bs, rfl, rfl, N, q⟩ := h
  cases rx
  cases ry
  obtain ⟨its, r, pl, hz⟩ := I.list N.l
  obtain ⟨its', r', pl', hz'⟩ := I.list N.r
  have l1 := r.length
  have l2 := r'.length
  rw [List.length_map] at l1 l2
  have hl := N.len
  refine SeqAt.eq_listAt (e := fun _ => true) pl.isList pl'.isList (by simp only [List.size_toArray]; (first | with_reducible assumption | lia | omega)) (by (first | with_reducible assumption | lia | omega)) (nest_at I N hu r r') ?_
  exact fin_bl I q (by rw [all_true])
end
end L2

namespace L2
open PySem PySem.Spec PyProof.Rows
theorem rec_ok {P : Program} {w : World} {K : PySem.W.Frag} {mg : Str → Option Value} {base : Heap} {f : Addr} {fd : FuncData} {ps : List Str} {x : Str} {m : Nat} (sp : Nat → Sp) (h0 : ∀ vs H Q E, ¬ sp 0 vs H Q E)
    (hm : mg x = some (.ref f)) (hk : PySem.W.keepIn K (.ref f) = true) (hb : Binds K fd ps [])
    (step : ∀ n, Def P w K mg base (m + n) x ps (sp n) → FnOk P w K mg base CX0 (m + n + 1) f fd ps (sp (n + 1))) : ∀ n, FnOk P w K mg base CX0 (m + n) f fd ps (sp n)
  | 0 => ⟨fun vs H Q E h => absurd h (h0 vs H Q E), fun _ _ _ _ _ _ _ _ _ _ _ _ _ h => absurd h (h0 _ _ _ _)⟩
  | n + 1 => step n ⟨f, fd, rec_ok sp h0 hm hk hb step n, hm, hk, hb⟩
section
variable {X : Cx}
inductive IrIndexV  (x : V) (vs : List V) (H : Hp) (Q : VK) : Prop where
  | mk (l : Addr) (xs : List V) (y : V) (k : Nat) (h0 : x = .ref l) (h1 : vs = [y]) (h2 : H l = some (.lst xs)) (h3 : xs.all flatV = true) (h4 : flatV y = true) (h5 : (∃ z, xs[k]? = some z ∧ eqV z y = true)) (h6 : (∀ j z, j < k → xs[j]? = some z → eqV z y = false)) (h7 : Q (.int (k : Int)) H) : IrIndexV  x vs H Q
noncomputable def rIndexV : V → List V → Hp → VK → Prop := fun x vs H Q => IrIndexV  x vs H Q
theorem mt_indexV : MtM X "list.index" rIndexV := by
  intro pins s σ H x vs v us Q I rx rv h
  obtain ⟨l, xs, y, k, rfl, rfl, hH, fx, fy, ⟨z, hz, ez⟩, hlt, q⟩ := h
  cases rx
  obtain ⟨u, rfl, ru⟩ := rv.one
  obtain ⟨zl, its, n, r, hl, e⟩ := I.lstM hH
  have hlen := r.length
  have hn := line63
  have hk : k < xs.length := (List.getElem?_eq_some_iff.mp hz).1
  have at_ : ∀ j (hj : j < its.length), eqU y its[j] = eqV (xs[j]'(by (first | with_reducible assumption | lia | omega))) y := fun j hj => by
    have hj' : j < xs.length := by (first | with_reducible assumption | lia | omega)
    obtain ⟨w', e', rw'⟩ := r.get (List.getElem?_eq_getElem hj')
    rw [List.getElem?_eq_getElem hj] at e'
    have ew : its[j] = w' := Option.some.inj e'
    rw [ew]
    exact eqU_of rw' (List.all_eq_true.mp fx _ (List.getElem_mem hj'))
  refine call_meets F.slot_list_index ⟨_, e, rfl⟩ F.entry_list_index (F.args_list_index_2 _ _)
    (SeqAt.list_indexAt l its.toArray n none #[] u (eqU y) k (by simpa [← hlen] using hk) (by (first | with_reducible assumption | lia | omega)) ?_ ?_) ⟨e, fun w hw => mem_eqAt ru fy r fx w (by simpa using hw), ?_⟩
  · show eqU y its[k] = true
    rw [at_ k (by (first | with_reducible assumption | lia | omega))]
    rw [List.getElem?_eq_getElem hk] at hz
    rw [Option.some.inj hz]
    exact ez
  · intro j hjs hj
    show eqU y its[j] = false
    rw [at_ j (by simpa using hjs)]
    exact hlt j _ hj (List.getElem?_eq_getElem (by (first | with_reducible assumption | lia | omega)))
  · exact ⟨.int (k : Int), H, I.tok _, ⟨_, rfl⟩, q⟩
end
noncomputable def plainV : V → Bool
  | .non => true
  | .int _ => true
  | _ => false
theorem plain_flat {x : V} (h : plainV x = true) : flatV x = true := by
  cases x <;> first | rfl | cases h
theorem plain_eqV {x y : V} (hx : plainV x = true) (hy : plainV y = true) : eqV x y = decide (x = y) := by
  cases x with
  | non => cases y with
    | non => rfl
    | int j => rfl
    | _ => cases hy
  | int i => cases y with
    | non => rfl
    | int j =>
      show (i == j) = _
      by_cases h : i = j
      · subst h
        rw [decide_eq_true rfl]
        exact beq_self_eq_true i
      · rw [decide_eq_false (fun z => h (V.int.inj z))]
        exact beq_eq_false_iff_ne.mpr h
    | _ => cases hy
  | _ => cases hx
theorem plain_all {xs : List V} (h : ∀ x ∈ xs, plainV x = true) : xs.all flatV = true := List.all_eq_true.mpr fun x hx => plain_flat (h x hx)
theorem cutV_nn (xs : List V) {f b : Nat} (h1 : f ≤ b) (h2 : b ≤ xs.length) : cutV xs (some (f : Int)) (some (b : Int)) = (xs.drop f).take (b - f) := by
  unfold cutV
  rw [HT.sIx_nat, HT.sIx_nat, Nat.min_eq_left (by (first | with_reducible assumption | lia | omega)), Nat.min_eq_left (by (first | with_reducible assumption | lia | omega))]
theorem getElem?_part (xs : List V) {f b j : Nat} (h : j < b - f) : ((xs.drop f).take (b - f))[j]? = xs[f + j]? := by
  rw [List.getElem?_take_of_lt h, List.getElem?_drop]
theorem part_len (xs : List V) {f b : Nat} (h2 : b ≤ xs.length) : ((xs.drop f).take (b - f)).length = b - f := by
  rw [List.length_take, List.length_drop]; (first | with_reducible assumption | lia | omega)
theorem part_mem {xs : List V} {f b : Nat} {x : V} (h : x ∈ (xs.drop f).take (b - f)) : x ∈ xs := List.mem_of_mem_drop (List.mem_of_mem_take h)
end L2

namespace L2
open PySem PySem.Spec PyProof.Rows
section
variable {X : Cx}
end
end L2

namespace L2
open PySem PySem.Spec PyProof.Rows
section
variable {X : Cx} {pins : List (Addr × Obj)} {σ : St} {H : Hp} {s : Shared} {h' : Heap} {e it a : Addr} {o : HO} {t' : Nat}
theorem Inv.turn2 (I : Inv X pins σ H s) (k : ∀ b u, b ≠ e → b ≠ it → s.heap.get? b = some u → h'.get? b = some u) (fe : FpOk X pins H e) (fi : FpOk X pins H it) (ha : s.heap.objs.size ≤ a) (new : ObjOk X.prog X.w (upd H a o) h' a o) :
    Inv X pins σ (upd H a o) { s with heap := h', toks := t' } := by
  have hn : H a = none := I.hok.fresh ha
  have kc : ∀ b u, b ∉ [e, it] → s.heap.get? b = some u → h'.get? b = some u := fun b u hb q => k b u (fun z => hb (by simp [z])) (fun z => hb (by simp [z])) q
  have ne : ∀ b u, s.heap.get? b = some u → b ≠ a := fun b u q => Nat.ne_of_lt (Nat.lt_of_lt_of_le (Heap.lt_size q) ha)
  have nt : ∀ b u, H b = some u → b ∉ [e, it] := fun b u q hm => by
    rcases List.mem_cons.mp hm with z | z
    · rw [z, fe.1] at q; cases q
    · rw [List.mem_singleton.mp z, fi.1] at q; cases q
  refine I.step (H' := upd H a o) (g' := s.gens) (d' := s.drawn) (ch := [e, it]) (fun b hb => ?_) (fun b u _ _ hc q _ => kc b u hc q) (fun b u _ _ hc q _ => ⟨u.slots, kc b u hc q⟩) (fun b u _ q n => by rw [upd_ne (ne b u q)]; exact n)
    (fun b u hc q => ⟨u, kc b u hc q⟩) (fun b xs q => by rw [upd_ne (ne_of_none q hn)]; exact q) (fun b u xs q => by rw [upd_ne (ne_of_none q hn)]; exact q) (fun b ps q => ⟨#[], by rw [upd_ne (ne_of_none q hn), q]; simp⟩) (fun m hm => ?_) (fun b u q => ?_) I.bare
  · rcases List.mem_cons.mp hb with z | z
    · subst z; exact ⟨fe.2.2.2.1, fe.2.1, fe.2.2.2.2.1, fe.2.2.2.2.2⟩
    · have z := List.mem_singleton.mp z
      subst z; exact ⟨fi.2.2.2.1, fi.2.1, fi.2.2.2.2.1, fi.2.2.2.2.2⟩
  · obtain ⟨ob, es, ep, ho, r⟩ := hm
    exact ⟨ob, es, ep, k _ ob (Ne.symm fe.2.1) (Ne.symm fi.2.1) ho, r⟩
  · by_cases hb : b = a
    · subst hb; rw [upd_same] at q; cases q; exact new
    · rw [upd_ne hb] at q
      refine (I.hok b u q).stay (fun c v hc r => kc c v ?_ r) (fun c r => by rw [upd_ne (ne_of_none r hn)]; exact r) fun c xs r => by rw [upd_ne (ne_of_none r hn)]; exact r
      rcases hc with z | z
      · rw [z]; exact nt b u q
      · exact nt c _ z
end
noncomputable def Ite (K : PySem.W.Frag) (a : Addr) : It :=
  ⟨fun i H => ∃ xs x, SqL K H a xs ∧ xs[i]? = some x, fun i H v H' => ∃ t x, v = .ref t ∧ H t = none ∧ H' = upd H t (.tup [.int (i : Int), x]) ∧ ∀ xs, SqL K H a xs → xs[i]? = some x, fun i H => ∃ xs, SqL K H a xs ∧ xs.length ≤ i⟩
theorem turn_enum {P : Program} {w : World} {K : PySem.W.Frag} {elts : List Expr} {x1 : Nat} {pos : Pos} (a e it : Addr) (hne : e ≠ it) : Turn P w K (.Tuple elts x1 pos) (Ite K a) [e, it] e (fun i h => ∃ old, IsEnum h e it (i : Int) old ∧ h.IsListIter it a i) where
  mem := by simp
  obj := fun i h st b hb => by
    obtain ⟨old, he, o, ho, c, d⟩ := st
    rcases List.mem_cons.mp hb with z | z
    · subst z
      exact ⟨_, he, fun v z => by
        have z' : Data.fields _ = Data.cell v := z
        cases z'⟩
    · have z := List.mem_singleton.mp z
      subst z
      exact ⟨o, ho, fun v z => by rw [d] at z; cases z⟩
  keep := fun i h h' st k => by
    obtain ⟨old, he, hit⟩ := st
    exact ⟨old, k e (by simp) _ he, hit.at fun o q => k it (by simp) o q⟩
  item := by
    intro X hP hw hK hc i pins s σ H E I hf st hg
    subst hP hw hK
    obtain ⟨old, he, hit⟩ := st
    obtain ⟨xs, x, hq, hx⟩ := hg
    obtain ⟨its, rv, p, hz⟩ := I.list hq
    obtain ⟨u, hu, ru⟩ := rv.get hx
    refine wpAny_pyNext_enum_item he hit p.isList (x := u) (by simpa using hu) hne fun h1 heo hit1 ht1 hz1 hk1 => ⟨_, rfl, wpAny_letOwnedTupleGo_enum heo fun h2 he2 sb2 => ?_⟩
    have sb : Heap.SameBut e h1 h2 := sb2
    have lte : e < s.heap.objs.size := Heap.lt_size he
    have ht2 : h2.get? s.heap.objs.size = some { cls := .type "tuple", data := .seq #[.int i s.toks, u] } := (sb.2 _ (Nat.ne_of_gt lte)).trans ht1
    have k2 : ∀ b o, b ≠ e → b ≠ it → s.heap.get? b = some o → h2.get? b = some o := fun b o n1 n2 q => (sb.2 b n1).trans (hk1 b o n1 n2 q)
    have hfr : H s.heap.objs.size = none := I.hok.fresh (Nat.le_refl _)
    refine ⟨.ref s.heap.objs.size, upd H s.heap.objs.size (.tup [.int (i : Int), x]), I.turn2 k2 (hf e (by simp)) (hf it (by simp)) (Nat.le_refl _) ⟨(by show 2 ≤ sizeLine; decide), [.int i s.toks, u], .cons ⟨_, rfl⟩ (.cons ru .nil), ⟨_, ht2, rfl, _, rfl⟩⟩, rfl,
      ⟨_, x, rfl, hfr, rfl, fun ys hy => by rw [I.list_inj hy hq]; exact hx⟩, ⟨u, ?_, ?_⟩, fun b hb => ?_⟩
    · have e1 : ((i + 1 : Nat) : Int) = (i : Int) + 1 := by (first | with_reducible assumption | lia | omega)
      rw [e1]
      exact he2
    · exact hit1.at fun o q => (sb.2 it (Ne.symm hne)).trans q
    · have hb' : b ≠ s.heap.objs.size := by
        rcases List.mem_cons.mp hb with z | z
        · rw [z]; exact Nat.ne_of_lt lte
        · rw [List.mem_singleton.mp z]
          obtain ⟨o, ho, _⟩ := id hit
          exact Nat.ne_of_lt (Heap.lt_size ho)
      rw [upd_ne hb']
      exact (hf b hb).1
  done := by
    intro X hP hw hK hc i pins s σ H E I hf st hg
    subst hP hw hK
    obtain ⟨old, he, hit⟩ := st
    obtain ⟨xs, hq, hx⟩ := hg
    obtain ⟨its, rv, p, hz⟩ := I.list hq
    obtain ⟨f0, f1, f2, f3, f4, f5⟩ := hf it (by simp)
    have hl := rv.length
    exact wpAny_pyNext_enum_end (I.ok.hd hc) he hit p.isList (by simp; (first | with_reducible assumption | lia | omega)) fun h' eb => ⟨rfl, I.turned (t' := s.toks) (fun b o hb q => eb b o hb q) f0 f1 f3 f4 f5⟩
  self := fun _ _ _ _ _ st h => by
    obtain ⟨old, he, _⟩ := st
    exact wpAny_pyIter_enum he h
section
variable {X : Cx} {elts : List Expr} {x1 : Nat} {tpos : Pos}
inductive IiEnum (K : PySem.W.Frag) (vs : List V) (H1 : Hp) (R : It → Hp → Prop) : Prop where
  | mk (a : Addr) (e : vs = [.ref a]) (h : ∃ xs, SqL K H1 a xs) (r : R (Ite K a) H1) : IiEnum K vs H1 R
noncomputable def iEnum (K : PySem.W.Frag) (ta : TA) : TI := fun σ H R => ta σ H fun vs H1 => IiEnum K vs H1 R
theorem pi_enum {l : Expr} {ta : TA} {p pos : Pos} (hg : Gl X "enumerate") (hm : X.mg "enumerate" = none) (ha : PA X [l] ta) (hs : starEach [l] X.env = [(false, eval l X.env)] := by rfl) : PI X (.Tuple elts x1 tpos) (.Call (.Name "enumerate" p) [l] [] pos) (iEnum X.K ta) := by
  intro pins s σ H R I h
  refine Call_ (ld_blt I hg hm boot_enumerate (PyProof.Rows.callWith_type1 (thn (ha pos pins s σ H _ I h) fun us s1 hq_ => APe hq_ fun vs H1 I1 r1 q1 => ?_) hs rfl))
  obtain ⟨a, e, ⟨xs, hq⟩, q⟩ := q1
  subst e
  cases r1 with
  | cons r rr =>
    cases rr
    cases r
    obtain ⟨its, rv, pl, hz⟩ := I1.list hq
    refine call_enumerate_list pl.isList fun h' he hit hsz hk => ?_
    have I2 : Inv X pins σ H1 { s1 with heap := h' } := I1.kept (t' := s1.toks) hk
    refine wpAny_pyIter_enum he ⟨_, [s1.heap.objs.size + 1, s1.heap.objs.size], _, Ite X.K a, H1, rfl, I2, turn_enum a _ s1.heap.objs.size (Nat.succ_ne_self _), ⟨.none, he, hit⟩, fun b hb => ?_, q⟩
    have hb' : s1.heap.objs.size ≤ b := by
      rcases List.mem_cons.mp hb with z | z
      · rw [z]; exact Nat.le_succ _
      · rw [List.mem_singleton.mp z]; exact Nat.le_refl _
    have fo := I1.fpOk (H' := H1) hb' (I1.hok.fresh hb')
    exact ⟨fo.1, fo.2.1, fo.2.2.1, fo.2.2.2.1, fo.2.2.2.2.1, fo.2.2.2.2.2⟩
theorem for_enum {K : PySem.W.Frag} {a : Addr} {xs : List V} {g : TG} {tb : TS} {D : Ends} {σ : St} {H : Hp} (Pv : Nat → St → Hp → Prop) (h0 : Pv 0 σ H) (hl : ∀ i σ H, i ≤ xs.length → Pv i σ H → SqL K H a xs)
    (hs : ∀ i x σ H t, xs[i]? = some x → Pv i σ H → H t = none → g (.ref t) σ (upd H t (.tup [.int (i : Int), x])) fun σ2 H2 => tb { D with nx := Pv (i + 1), ct := Pv (i + 1), bk := D.nx } σ2 H2) (hd : ∀ σ H, Pv xs.length σ H → D.nx σ H) :
    ∃ W : Nat → Nat → St → Hp → Prop, (∃ m, W 0 m σ H) ∧ ∀ i m σ H, W i m σ H →
      ((Ite K a).stop i H ∧ D.nx σ H) ∨ ((Ite K a).go i H ∧ ∃ N : St → Hp → Prop, (∀ σ' H', N σ' H' → ∃ m', m' < m ∧ W (i + 1) m' σ' H') ∧ ∀ x H', (Ite K a).yld i H x H' → g x σ H' fun σ2 H2 => tb { D with nx := N, ct := N, bk := D.nx } σ2 H2) := by
  refine ⟨fun i m σ H => m = xs.length - i ∧ i ≤ xs.length ∧ Pv i σ H, ⟨xs.length, by simp, Nat.zero_le _, h0⟩, ?_⟩
  rintro i m σ H ⟨rfl, hi, p⟩
  have q := hl i σ H hi p
  by_cases hlt : i < xs.length
  · refine .inr ⟨⟨xs, xs[i], q, by simp [hlt]⟩, Pv (i + 1), fun σ' H' p' => ⟨xs.length - (i + 1), by (first | with_reducible assumption | lia | omega), rfl, hlt, p'⟩, fun v H' y => ?_⟩
    obtain ⟨t, x, e1, ht, e2, y⟩ := y
    subst e1
    subst e2
    exact hs i x σ _ t (y xs q) p ht
  · have e : i = xs.length := by (first | with_reducible assumption | lia | omega)
    subst e
    exact .inl ⟨⟨xs, q, Nat.le_refl _⟩, hd σ H p⟩
end
section
variable {X : Cx}
noncomputable def CMulM (i j : Int) : Prop := i.natAbs < 2 ^ 250 ∧ j.natAbs < 2 ^ 250
theorem bits_le {i : Int} (h : i.natAbs < 2 ^ 250) : Builtin.Int.intBits i ≤ 2 ^ 20 := by
  unfold Builtin.Int.intBits
  split
  · exact Nat.zero_le _
  · rename_i hz
    have h0 : i.natAbs ≠ 0 := by
      intro z
      apply hz
      have : i = 0 := by (first | with_reducible assumption | lia | omega)
      rw [this]
      rfl
    have := (Nat.log2_lt h0).mpr h
    have e : (250 : Nat) ≤ 2 ^ 20 := by decide
    (first | with_reducible assumption | lia | omega)
theorem op_mulM : OpR X (binaryOp .Mult) (rI CMulM fun i j => .int (i * j)) := opI fun _ _ _ _ _ _ _ hc q => mul_int q (IntMulOk.of_bits (bits_le hc.1) (bits_le hc.2))
end
end L2

namespace L2
open PySem PySem.Spec PyProof.Rows
structure Trc (h : Heap) (e T : Addr) (cls : Value) : Prop where
  ex : ∃ oe vs oT ts, h.get? e = some oe ∧ oe.cls = cls ∧ oe.data = .fields vs ∧ vs[1]? = some (.ref T) ∧ T ≠ e ∧ h.get? T = some oT ∧ oT.data = .fields ts ∧ ts[3]? = some .none
noncomputable def CXE (P : Program) (w : World) : CXT := fun outer H s E e s' => ∃ (a T : Addr) (H' : Hp) (cls : Value), e = .ref a ∧ s'.os = s.os ∧ AllBare s'.gens ∧ Un (frs outer) [] H H' s.heap s'.heap ∧ HOk P w H' s'.heap ∧
  s.heap.get? a = none ∧ s.heap.get? T = none ∧ H' a = none ∧ H' T = none ∧ Trc s'.heap a T cls ∧ E cls none H'
theorem ObjOk.some {P : Program} {w : World} {H : Hp} {h : Heap} {a : Addr} {o : HO} (x : ObjOk P w H h a o) : ∃ ob, h.get? a = some ob := by
  cases o with
  | lst xs => obtain ⟨_, _, _, _, e⟩ := x; exact ⟨_, e⟩
  | tup xs => obtain ⟨_, _, _, ob, e, _⟩ := x; exact ⟨_, e⟩
  | dK kvs => obtain ⟨_, _, _, _, o, _, _, e, _⟩ := x; exact ⟨_, e⟩
  | dT kvs => obtain ⟨_, _, _, _, o, _, _, e, _⟩ := x; exact ⟨_, e⟩
  | set S n => obtain ⟨o, _, _, _, e, _⟩ := x; exact ⟨_, e⟩
  | ins C dx fs => obtain ⟨_, _, _, e, _⟩ := x; exact ⟨_, e⟩
  | own y => obtain ⟨_, e⟩ := x; exact ⟨_, e⟩
  | xd fs => obtain ⟨_, ⟨_, _, _, e, _⟩, _⟩ := x; exact ⟨_, e⟩
  | rng lo hi => obtain ⟨_, _, _, e⟩ := x; exact ⟨_, e⟩
  | frz ob u => obtain ⟨e, _⟩ := x; exact ⟨_, e⟩
  | tbl ps => exact ⟨_, show h.get? a = Option.some _ from x⟩
  | met f y => exact ⟨_, show h.get? a = Option.some _ from x⟩
  | ext φ => obtain ⟨_, ⟨_, e⟩, _⟩ := x; exact ⟨_, e⟩
theorem HOk.nil_of {P : Program} {w : World} {H : Hp} {h : Heap} {a : Addr} (x : HOk P w H h) (e : h.get? a = none) : H a = none := by
  cases q : H a with
  | none => rfl
  | some o =>
    obtain ⟨ob, z⟩ := (x a o q).some
    rw [e] at z; cases z
theorem funs_hide {B h : Heap} {as : List Addr} : ∀ {l : List Env}, h.FunFrames B l → (∀ b ∈ frs l, b ∈ as) → h.FunFrames (PySem.W.hideAll h as) l
  | [], _, _ => trivial
  | env :: l, ⟨hk, ⟨L, o, hf, _, ho, hd⟩, hr⟩, hin => by
    have e : frs (env :: l) = L :: frs l := by unfold frs; rw [List.filterMap_cons, hf]
    exact ⟨hk, ⟨L, o, hf, PySem.W.hideAll_none _ (hin L (by rw [e]; exact .head _)), ho, hd⟩, funs_hide hr fun b hb => hin b (by rw [e]; exact .tail _ hb)⟩
theorem funs_more {B h h' : Heap} {l : List Env} (x : h.FunFrames B l) (k : ∀ b o, h.get? b = some o → h'.get? b = some o) : h'.FunFrames B l := x.of_keeps fun b o q _ => ⟨o, k b o q, rfl⟩
structure Noted (g h : Heap) (fs no : List Addr) (e T : Addr) (cls : Value) : Prop where
  keep : ∀ b o, g.get? b = some o → b ∉ fs → b ∉ no → h.get? b = some o
  slot : ∀ b o, g.get? b = some o → b ∈ fs → ∃ sl, h.get? b = some { o with slots := sl }
  trc : Trc h e T cls
  new : T ∈ no ∨ g.get? T = none
section
variable {M : Model} {A : Around} {E : Value → Shared → Prop} {s : Shared} {env : Env} {outer : List Env} {L e : Addr} {Q : Unit → Shared → Prop}
theorem noted_of {g h1 h2 B : Heap} {no : List Addr} {cls : Value} (kg : ∀ b o, g.get? b = some o → b ∉ no → h1.get? b = some o) (hB : ∀ b o, g.get? b = some o → b ∉ frs (env :: outer) → b ∉ no → B.get? b = some o)
    (hF : g.FunFrames B (env :: outer)) (nf : ∀ b ∈ frs (env :: outer), b ∉ no) (x : Heap.Left B (env :: outer) e cls h1 h2) : ∃ T, Noted g h2 (frs (env :: outer)) no e T cls := by
  obtain ⟨x1, x2, ⟨oe, vs, T, oT, ts, a1, a2, a3, a4, a5, a6, a7, a8, a9⟩, x4⟩ := x
  refine ⟨T, ⟨fun b o q n1 n2 => x1 b o (hB b o q n1 n2), fun b o q hb => ?_, ⟨oe, vs, oT, ts, a1, a2, a3, a4, a6, a7, a8, a9⟩, ?_⟩⟩
  · obtain ⟨_, o', ho', hd'⟩ := hF.mem hb
    rw [q] at ho'
    cases ho'
    exact x4 b o (kg b o q (nf b hb)) hd'
  · by_cases hn : T ∈ no
    · exact .inl hn
    · right
      cases q : g.get? T with
      | none => rfl
      | some o =>
        by_cases hm : T ∈ frs (env :: outer)
        · obtain ⟨_, o', ho', hd'⟩ := x2.mem hm
          rw [a7] at ho'
          cases ho'
          exact absurd a8 (hd' ts)
        · rw [hB T o q hm hn] at a5
          cases a5
theorem leave_new1 {g B : Heap} {cls : Value} {us : List Value} (hfr : A.frames = some (env :: outer)) (hf : env.frame = some L) (hF : g.FunFrames B (env :: outer)) (hx : Heap.MadeExcOf g s.heap e cls us)
    (q : ∀ h T, Noted g h (frs (env :: outer)) [] e T cls → Q () { s with heap := h }) : wpAny M A (leaving env (.ref e)) Q E s := by
  obtain ⟨t, he, _, _⟩ := hx.there
  have hF' := funs_hide (as := frs (env :: outer)) hF fun b hb => hb
  refine wpAny_leaving_first (base := PySem.W.hideAll g (frs (env :: outer))) hfr (funs_more hF' hx.keeps) hf he (fun b o z => hx.keeps b o (PySem.W.of_hideAll _ z)) ?_ rfl rfl fun h x => ?_
  · cases z : (PySem.W.hideAll g (frs (env :: outer))).get? e with
    | none => rfl
    | some o => have := PySem.W.of_hideAll _ z; rw [hx.new] at this; cases this
  · obtain ⟨T, N⟩ := noted_of (g := g) (no := []) (fun b o z _ => hx.keeps b o z) (fun b o z n1 _ => PySem.W.hideAll_get _ z n1) hF' (fun _ _ z => nomatch z) x
    exact q h T N
theorem note_next {T : Addr} {B : Heap} {cls : Value} (hfr : A.frames = some (env :: outer)) (hf : env.frame = some L) (hF : s.heap.FunFrames B (env :: outer)) (ht : Trc s.heap e T cls)
    (q : ∀ h T', Noted s.heap h (frs (env :: outer)) [e, T] e T' cls → Q () { s with heap := h }) : wpAny M A (noteFrame (.ref e) env) (fun _ s2 => wpAny M A (setFlight (.ref e) none) Q E s2) E s := by
  obtain ⟨oe, vs, oT, ts, a1, a2, a3, a4, a5, a6, a7, a8⟩ := ht.ex
  subst a2
  have ne : ∀ b ∈ frs (env :: outer), b ∉ [e, T] := fun b hb hm => by
    obtain ⟨_, o, ho, hd⟩ := hF.mem hb
    rcases List.mem_cons.mp hm with z | z
    · rw [z, a1] at ho; cases ho; exact hd vs a3
    · rw [List.mem_singleton.mp z, a6] at ho; cases ho; exact hd ts a7
  have hF' := funs_hide (as := e :: T :: frs (env :: outer)) hF fun b hb => .tail _ (.tail _ hb)
  have oth : ∀ b, b ≠ T → (s.heap.update T (Obj.mapFields (·.setIfInBounds 3 Value.none))).get? b = s.heap.get? b := fun b hb => Heap.get?_update_other _ _ (Ne.symm hb)
  have hid : ∀ b o, (PySem.W.hideAll s.heap (e :: T :: frs (env :: outer))).get? b = some o → s.heap.get? b = some o ∧ b ≠ T ∧ b ≠ e := fun b o z => by
    refine ⟨PySem.W.of_hideAll _ z, fun y => ?_, fun y => ?_⟩
    · subst y; rw [PySem.W.hideAll_none _ (.tail _ (.head _))] at z; cases z
    · subst y; rw [PySem.W.hideAll_none _ (.head _)] at z; cases z
  have hFu : (s.heap.update T (Obj.mapFields (·.setIfInBounds 3 Value.none))).FunFrames (PySem.W.hideAll s.heap (e :: T :: frs (env :: outer))) (env :: outer) := hF'.of_keeps fun b o z hd => ⟨o, (oth b (fun y => by subst y; rw [a6] at z; cases z; exact hd ts a7)).trans z, rfl⟩
  have hT : (Value.ref T != Value.none) = true := by simp
  have hL : ¬ ((Value.none == rawInt L) = true) := by simp [rawInt]
  have fin : ∀ h2, Heap.Left (PySem.W.hideAll s.heap (e :: T :: frs (env :: outer))) (env :: outer) e oe.cls (s.heap.update T (Obj.mapFields (·.setIfInBounds 3 Value.none))) h2 → Q () { s with heap := h2 } := fun h2 x => by
    obtain ⟨T', N⟩ := noted_of (g := s.heap) (no := [e, T]) (fun b o z hn => (oth b fun y => hn (by simp [y])).trans z) (fun b o z n1 n2 => PySem.W.hideAll_get _ z fun hm => by
      rcases List.mem_cons.mp hm with y | hm
      · exact n2 (by simp [y])
      · rcases List.mem_cons.mp hm with y | hm
        · exact n2 (by simp [y])
        · exact n1 hm) hF' ne x
    exact q h2 T' N
  unfold noteFrame
  simp only [hf]
  refine wpAny_bind (wpAny_field a1 a3 a4 ?_)
  rw [if_pos hT]
  refine wpAny_bind (wpAny_field a6 a7 a8 ?_)
  rw [if_neg hL]
  refine wpAny_bind (wpAny_setField a6 a7 (Array.getElem?_eq_some_iff.mp a8).1 ?_)
  refine wpAny_newEntry (base := PySem.W.hideAll s.heap (e :: T :: frs (env :: outer))) hfr hFu hf ((oth e (Ne.symm a5)).trans a1) (fun b o z => (oth b (hid b o z).2.1).trans (hid b o z).1) (PySem.W.hideAll_none _ (.head _)) a3 (Array.getElem?_eq_some_iff.mp a4).1 fin
theorem leave_next {T : Addr} {B : Heap} {cls : Value} (hfr : A.frames = some (env :: outer)) (hf : env.frame = some L) (hF : s.heap.FunFrames B (env :: outer)) (ht : Trc s.heap e T cls)
    (q : ∀ h T', Noted s.heap h (frs (env :: outer)) [e, T] e T' cls → Q () { s with heap := h }) : wpAny M A (leaving env (.ref e)) Q E s := by
  unfold leaving
  exact wpAny_bind (note_next hfr hf hF ht q)
end
section
variable {X : Cx} {pins : List (Addr × Obj)} {σ : St} {H : Hp} {s : Shared}
structure Own (X : Cx) : Prop where
  stk : X.stack = X.env :: X.outer
  fr : X.env.frame = some X.env.locals
  ex : X.ex = []
theorem hok_noted {P : Program} {w : World} {H : Hp} {g h : Heap} {fs no : List Addr} {e T : Addr} {cls : Value} (x : HOk P w H g) (N : Noted g h fs no e T cls) (hf : ∀ b ∈ fs, H b = none) (hn : ∀ b ∈ no, H b = none) : HOk P w H h := fun b u q => by
  refine (x b u q).stay (fun c v hc r => N.keep c v r (fun z => ?_) (fun z => ?_)) (fun _ q => q) fun _ _ q => q
  · have := hf c z
    rcases hc with y | y
    · rw [y, q] at this; cases this
    · rw [y] at this; cases this
  · have := hn c z
    rcases hc with y | y
    · rw [y, q] at this; cases this
    · rw [y] at this; cases this
theorem raise_out {P : Program} {w : World} {E : XK} {a : Addr} {cls : Value} {us : List Value} {h1 : Heap} (O : Own X) (hP : X.prog = P) (hw : X.w = w) (I : Inv X pins σ H s) (hx : Heap.MadeExcOf s.heap h1 a cls us) (hE : E cls none H) :
    wpAny (model P w) X.A (leaving X.env (.ref a)) (fun _ s2 => CXE P w X.outer X.H₀ X.s₀ E (.ref a) s2) (fun e' s2 => CXE P w X.outer X.H₀ X.s₀ E e' s2) { s with heap := h1 } := by
  subst hP hw
  have hst := I.stack
  rw [O.stk] at hst
  refine leave_new1 (s := { s with heap := h1 }) (by rw [← O.stk]; exact I.ok.frames) O.fr hst hx fun h T N => ?_
  have hfs : frs (X.env :: X.outer) = X.env.locals :: X.fs := by unfold frs; rw [List.filterMap_cons, O.fr]; rfl
  have hfree : ∀ b ∈ frs (X.env :: X.outer), H b = none := by rw [← O.stk]; exact I.stkFree
  have noex : ∀ b : Addr, b ∉ X.ex := fun b z => by rw [O.ex] at z; cases z
  have none0 : ∀ b, s.heap.get? b = none → X.s₀.heap.get? b = none := fun b z => by
    cases q : X.s₀.heap.get? b with
    | none => rfl
    | some o =>
      obtain ⟨o', e⟩ := I.base.there b o q (noex b)
      rw [z] at e; cases e
  have nT : s.heap.get? T = none := by
    rcases N.new with z | z
    · cases z
    · exact z
  have neL : ∀ b o, X.s₀.heap.get? b = some o → b ≠ X.env.locals := fun b o e => Nat.ne_of_lt (Nat.lt_of_lt_of_le (Heap.lt_size e) I.ok.above)
  refine ⟨a, T, H, cls, rfl, I.os, I.bare, ⟨fun b o e n hb _ => ?_, fun b o e n hb _ => ?_, fun b o e n _ => I.base.free b o e n (noex b), fun b o e _ => ?_, I.base.tups, I.base.frzs, I.base.tbls⟩,
    hok_noted I.hok N hfree (fun _ z => nomatch z), none0 a hx.new, none0 T nT, I.hok.nil_of hx.new, I.hok.nil_of nT, N.trc, hE⟩
  · refine N.keep b o (I.base.keep b o e n hb (noex b)) ?_ (fun z => nomatch z)
    rw [hfs]
    intro z
    rcases List.mem_cons.mp z with y | y
    · exact neL b o e y
    · exact hb y
  · obtain ⟨sl, e1⟩ := I.base.slot b o e n hb (noex b)
    obtain ⟨sl', e2⟩ := N.slot b _ e1 (by rw [hfs]; exact .tail _ hb)
    exact ⟨sl', e2⟩
  · obtain ⟨o', e1⟩ := I.base.there b o e (noex b)
    by_cases hb : b ∈ frs (X.env :: X.outer)
    · obtain ⟨sl, e2⟩ := N.slot b _ e1 hb
      exact ⟨_, e2⟩
    · exact ⟨o', N.keep b o' e1 hb (fun z => nomatch z)⟩
theorem funs_un {S : List Addr} {H H' : Hp} {B h h' : Heap} (un : Un S [] H H' h h') : ∀ {l : List Env}, (∀ b ∈ frs l, H b = none ∧ b ∈ S) → h.FunFrames B l → h'.FunFrames B l
  | [], _, _ => trivial
  | env :: l, hb, ⟨hk, ⟨L, o, hf, hn, ho, hd⟩, hr⟩ => by
    have e : frs (env :: l) = L :: frs l := by unfold frs; rw [List.filterMap_cons, hf]
    obtain ⟨h1, h2⟩ := hb L (by rw [e]; exact .head _)
    obtain ⟨sl, q⟩ := un.slot L o ho h1 h2 (by simp)
    exact ⟨hk, ⟨L, _, hf, hn, q, hd⟩, funs_un un (fun b z => hb b (by rw [e]; exact .tail _ z)) hr⟩
theorem frames_after {s' : Shared} {H' : Hp} (I : Inv X pins σ H s) (un : Un (frs X.stack) [] H H' s.heap s'.heap) : s'.heap.FunFrames X.base X.stack :=
  funs_un un (fun b hb => ⟨I.stkFree b hb, hb⟩) I.stack
theorem un_noted {fs : List Addr} {H H' : Hp} {g h h2 : Heap} {a T T' : Addr} {cls : Value} (un : Un fs [] H H' g h) (N : Noted h h2 fs [a, T] a T' cls) (ha : g.get? a = none) (hT : g.get? T = none) : Un fs [] H H' g h2 := by
  have nn : ∀ b o, g.get? b = some o → b ∉ [a, T] := fun b o e hm => by
    rcases List.mem_cons.mp hm with z | z
    · rw [z, ha] at e; cases e
    · rw [List.mem_singleton.mp z, hT] at e; cases e
  refine ⟨fun b o e n hb _ => N.keep b o (un.keep b o e n hb (by simp)) hb (nn b o e), fun b o e n hb _ => ?_, un.free, fun b o e _ => ?_, un.tups, un.frzs, un.tbls⟩
  · obtain ⟨sl, e1⟩ := un.slot b o e n hb (by simp)
    obtain ⟨sl', e2⟩ := N.slot b _ e1 hb
    exact ⟨sl', e2⟩
  · obtain ⟨o', e1⟩ := un.there b o e (by simp)
    by_cases hb : b ∈ fs
    · obtain ⟨sl, e2⟩ := N.slot b _ e1 hb
      exact ⟨_, e2⟩
    · exact ⟨o', N.keep b o' e1 hb (nn b o e)⟩
theorem pass_out {P : Program} {w : World} {E : XK} {e : Value} {s' : Shared} (O : Own X) (hP : X.prog = P) (hw : X.w = w) (I : Inv X pins σ H s) (hx : CXE P w X.stack H s E e s') :
    wpAny (model P w) X.A (leaving X.env e) (fun _ s2 => CXE P w X.outer X.H₀ X.s₀ E e s2) (fun e' s2 => CXE P w X.outer X.H₀ X.s₀ E e' s2) s' := by
  subst hP hw
  obtain ⟨a, T, H', cls, rfl, os, bare, un, hok, na, nT, ha, hT, tr, hE⟩ := hx
  have hst := frames_after I un
  rw [O.stk] at hst un
  refine leave_next (by rw [← O.stk]; exact I.ok.frames) O.fr hst tr fun h T' N => ?_
  have hfs : frs (X.env :: X.outer) = X.env.locals :: X.fs := by unfold frs; rw [List.filterMap_cons, O.fr]; rfl
  have un2 := un_noted un N na nT
  have noex : ∀ b : Addr, b ∉ X.ex := fun b z => by rw [O.ex] at z; cases z
  have none0 : ∀ b, s.heap.get? b = none → X.s₀.heap.get? b = none := fun b z => by
    cases q : X.s₀.heap.get? b with
    | none => rfl
    | some o =>
      obtain ⟨o', e⟩ := I.base.there b o q (noex b)
      rw [z] at e; cases e
  have nT' : s.heap.get? T' = none ∧ H' T' = none := by
    rcases N.new with z | z
    · rcases List.mem_cons.mp z with y | y
      · exact ⟨by rw [y]; exact na, by rw [y]; exact ha⟩
      · rw [List.mem_singleton.mp y]; exact ⟨nT, hT⟩
    · refine ⟨?_, hok.nil_of z⟩
      cases q : s.heap.get? T' with
      | none => rfl
      | some o =>
        obtain ⟨o', e⟩ := un.there T' o q (by simp)
        rw [z] at e; cases e
  have hfree : ∀ b ∈ frs (X.env :: X.outer), H' b = none := fun b hb => by
    have hb' : b ∈ frs X.stack := by rw [O.stk]; exact hb
    obtain ⟨_, o, ho, _⟩ := I.stack.mem hb'
    exact un.free b o ho (I.stkFree b hb') (by simp)
  have neL : ∀ b o, X.s₀.heap.get? b = some o → b ≠ X.env.locals := fun b o e => Nat.ne_of_lt (Nat.lt_of_lt_of_le (Heap.lt_size e) I.ok.above)
  refine ⟨a, T', H', cls, rfl, os.trans I.os, bare, ⟨fun b o e n hb _ => ?_, fun b o e n hb _ => ?_, fun b o e n _ => ?_, fun b o e _ => ?_, fun b xs e => un.tups b xs (I.base.tups b xs e), fun b o u e => un.frzs b o u (I.base.frzs b o u e), fun b ps e => ?_⟩,
    hok_noted hok N hfree (fun b hb => ?_), none0 a na, none0 T' nT'.1, ha, nT'.2, N.trc, hE⟩
  · refine un2.keep b o (I.base.keep b o e n hb (noex b)) (I.base.free b o e n (noex b)) ?_ (by simp)
    rw [hfs]
    intro z
    rcases List.mem_cons.mp z with y | y
    · exact neL b o e y
    · exact hb y
  · obtain ⟨sl, e1⟩ := I.base.slot b o e n hb (noex b)
    obtain ⟨sl', e2⟩ := un2.slot b _ e1 (I.base.free b o e n (noex b)) (by rw [hfs]; exact .tail _ hb) (by simp)
    exact ⟨sl', e2⟩
  · obtain ⟨o', e1⟩ := I.base.there b o e (noex b)
    exact un2.free b o' e1 (I.base.free b o e n (noex b)) (by simp)
  · obtain ⟨o', e1⟩ := I.base.there b o e (noex b)
    exact un2.there b o' e1 (by simp)
  · obtain ⟨m1, e1⟩ := I.base.tbls b ps e
    obtain ⟨m2, e2⟩ := un.tbls b _ e1
    exact ⟨m1 ++ m2, by rw [e2, Array.append_assoc]⟩
  · rcases List.mem_cons.mp hb with y | y
    · rw [y]; exact ha
    · rw [List.mem_singleton.mp y]; exact hT
end
section
variable {P : Program} {w : World} {K : PySem.W.Frag} {mg : Str → Option Value} {base : Heap} {N : List Str} {qual : Str} {scope : Scope} {f : Addr} {cd : Value} {A : Around} {outer : List Env} {s : Shared} {H : Hp} {E : XK}
theorem own_cx : Own (cxOf (CXE P w) P w K mg base N qual scope f cd A outer s H E) := ⟨rfl, rfl, rfl⟩
theorem pass_body : Passes (CXE P w) (cxOf (CXE P w) P w K mg base N qual scope f cd A outer s H E) E := fun pins σ H1 s1 e s' I h => pass_out own_cx rfl rfl I h
end
abbrev bmV : List Value := [.type "ValueError", .type "Exception", .type "BaseException", .type "object"]
abbrev newV : String := "ValueError.__new__"
theorem own_in {K : PySem.W.Frag} {h : Heap} {mg : Str → Option Value} {x : Str} {C : Addr} (KX : K.In h) (hm : mg x = some (.ref C)) (q : PySem.W.excIn K C bmV newV = true) : OwnCls x C bmV newV mg h := by
  refine ⟨hm, ?_⟩
  unfold PySem.W.excIn at q
  split at q
  case h_2 => cases q
  case h_1 dd cd sl ho =>
  split at q
  case h_2 => cases q
  case h_1 C' bm k0 k1 k2 k3 n k5 hmr hs =>
  rw [Bool.and_eq_true, Bool.and_eq_true, Bool.and_eq_true, Bool.and_eq_true, Bool.and_eq_true, beq_iff_eq, beq_iff_eq, beq_iff_eq, Bool.not_eq_true'] at q
  obtain ⟨⟨⟨⟨⟨q1, q2⟩, q3⟩, q4⟩, q5⟩, q6⟩ := q
  subst q1 q2
  rcases cd with ⟨nm, bs, mro, ns, qn, hd, sn, sub, ab, col, del⟩
  have hmr : mro = .ref C' :: bm := hmr
  have q3 : del = false := q3
  subst hmr q3
  have es : sl = #[k0, k1, k2, k3, some (.builtin newV), k5] := by rcases sl with ⟨l⟩; exact congrArg Array.mk hs
  subst es
  exact ⟨bm, ns, nm, qn, bs, hd, sn, sub, ab, col, dd, k0, k1, k2, k3, k5, _, KX _ _ ho, .of_isNs (PySem.W.isNs_of_in KX q5), PySem.W.nsMap_none_of_in KX q5 q6, PySem.W.tail_of_in KX q4⟩
section
variable {X : Cx} {x : Str} {C : Addr} {e₀ : Expr} {rest : List Expr} {ta : TA} {np cpos pos : Pos}
noncomputable def tRaise (E : XK) (C : Addr) (ta : TA) : TS := fun _ σ H => ta σ H fun vs H1 => vs.length ≤ sizeLine ∧ E (.ref C) none H1
theorem ps_raise {E : XK} (hc : X.calm = true) (hg : Gl X x) (hm : X.mg x = some (.ref C)) (q : PySem.W.excIn X.K C bmV newV = true) (ha : PA X (e₀ :: rest) ta)
    (hx : ∀ (pins : List (Addr × Obj)) (σ : St) (H : Hp) (s : Shared) (a : Addr) (h1 : Heap) (us : List Value), Inv X pins σ H s → Heap.MadeExcOf s.heap h1 a (.ref C) us → E (.ref C) none H → X.xe (.ref a) { s with heap := h1 })
    (he : starEach (e₀ :: rest) X.env = (false, eval e₀ X.env) :: starEach rest X.env := by rfl) (hpl : (backTo cpos (starEach rest X.env)).any (·.1) = false := by rfl) (hd : (x == ("__debug__" : Str)) = false := by decide) :
    PS X (.Raise (some (.Call (.Name x np) (e₀ :: rest) [] cpos)) none pos) (tRaise E C ta) := by
  intro pins s σ H D I h
  obtain ⟨tl, N, nm, qn, bs, hdct, sn, sub, ab, col, dd, k0, k1, k2, k3, k5, mN, hC, hN, hni, T⟩ := (own_in (x := x) I.ok.mod.kin hm q).obj
  have FB := PySem.F.excBase_ValueError
  refine wpAny_Raise_call_subT (N := N) (nm := nm) (q := qn) (bs := bs) (hdct := hdct) (sn := sn) (sub := sub) (ab := ab) (col := col) (dd := dd) (k0 := k0) (k1 := k1) (k2 := k2) (k3 := k3) (k5 := k5) FB (mN := mN) (T.hasType FB.hasBase) (I.ok.hd hc)
    (by rw [he]; show (false || (backTo cpos (starEach rest X.env)).any (·.1)) = false; rw [hpl]; rfl) hni (ld_glob I hg hm ⟨rfl, ?_⟩ hd)
  have h2 := ha cpos pins s σ H _ I h
  rw [he] at h2 ⊢
  refine Calls.evalArgs_plain (thn h2 fun us s1 hq_ => APe hq_ fun vs H1 I1 r1 ⟨hz, hE⟩ => ⟨rfl, ?_, I1.bk _ _ hC, hN.keeps I1.bk, T.keeps I1.bk, fun h1 a hx1 => hx pins σ H1 s1 a h1 us I1 hx1 hE⟩)
  rw [← r1.length]
  exact hz
end
theorem raise_body {P : Program} {w : World} {K : PySem.W.Frag} {mg : Str → Option Value} {base : Heap} {N : List Str} {qual : Str} {scope : Scope} {f : Addr} {cd : Value} {A : Around} {outer : List Env} {s : Shared} {H : Hp} {E : XK} {C : Addr}
    (pins : List (Addr × Obj)) (σ : St) (H1 : Hp) (s1 : Shared) (a : Addr) (h1 : Heap) (us : List Value) (I : Inv (cxOf (CXE P w) P w K mg base N qual scope f cd A outer s H E) pins σ H1 s1) (hx : Heap.MadeExcOf s1.heap h1 a (.ref C) us) (hE : E (.ref C) none H1) :
    (cxOf (CXE P w) P w K mg base N qual scope f cd A outer s H E).xe (.ref a) { s1 with heap := h1 } := raise_out own_cx rfl rfl I hx hE
theorem Fun.okX {P : Program} {w : World} {K : PySem.W.Frag} {mg : Str → Option Value} {base : Heap} {x qual : Str} {st : Stmt} {f : Addr} {fd : FuncData} {N ps : List Str} {k : Nat} {sp : Sp} (F : Fun K x qual st f fd) (S : FnScope N ps (defScope st)) (len : ∀ vs H Q E, sp vs H Q E → vs.length = ps.length)
    (hbody : ∀ (cdv : Value) (A : Around) (outer : List Env) (s : Shared) (H : Hp) (vs : List V) (Q : VK) (E : XK), Room k (A.deeper (envOfC qual (defScope st) s.heap.objs.size f cdv)) → sp vs H Q E →
      ∃ t, PSs (cxOf (CXE P w) P w K mg base N qual (defScope st) f cdv A outer s H E) (defBody st) t ∧ t { nx := fun _ H' => Q .non H', rt := Q } (start N vs) H) : FnOk P w K mg base (CXE P w) (k + 1) f fd ps sp := by
  obtain ⟨oc, od, kV, doc, pm, an, cdv, ct, osl, rfl, lk, hcd⟩ := F.ex
  exact fn_of lk hcd S len fun A outer s H vs Q E hr hsp => hbody cdv A outer s H vs Q E hr hsp
structure DefX (P : Program) (w : World) (K : PySem.W.Frag) (mg : Str → Option Value) (base : Heap) (k : Nat) (x : Str) (ps : List Str) (sp : Sp) : Prop where
  ex : ∃ (f : Addr) (fd : FuncData), FnOk P w K mg base (CXE P w) k f fd ps sp ∧ mg x = some (.ref f) ∧ PySem.W.keepIn K (.ref f) = true ∧ Binds K fd ps []
theorem pe_defX {X : Cx} {k : Nat} {x : Str} {ps : List Str} {sp : Sp} {e : Expr} {es : List Expr} {t : TA} {p pos : Pos} {E : XK} (D : DefX X.prog X.w X.K X.mg X.base k x ps sp) (hx : Passes (CXE X.prog X.w) X E) (hr : Room k X.A) (ha : PA X (e :: es) t) (hg : Gl X x := by rfl) (hdb : (x == ("__debug__" : Str)) = false := by decide)
    (he : starEach (e :: es) X.env = (false, eval e X.env) :: starEach es X.env := by rfl) (hpl : (backTo pos (starEach es X.env)).any (·.1) = false := by rfl) :
    PE X (.Call (.Name x p) (e :: es) [] pos) (tCall sp [] E t) := by
  obtain ⟨f, fd, F, hm, hk, hb⟩ := D.ex
  exact pe_call F hr hg hm hk hb .nil hx ha hdb he hpl
end L2

namespace L2
open PySem PySem.Spec PyProof.Rows
section
variable {X : Cx}
variable {pins pins' : List (Addr × Obj)} {σ : St} {H : Hp} {s : Shared}
end
section
variable {X : Cx} {x : Str} {C : Addr} {np hpos pos : Pos} {body : List Stmt} {b₀ : Stmt} {suite : List Stmt} {tb : XK → TS} {ts : TS} {EC : Value → Prop}
end
end L2
namespace L2
open PySem PySem.Spec PyProof.Rows
section
variable {X : Cx} {K : PySem.W.Frag} {o e : Expr} {es : List Expr} {to : TE} {t : TA} {name : Str} {apos cpos : Pos} {T id : String} {r : V → List V → Hp → VK → Prop}
theorem pe_bmK (hK : X.K = K) (pa : PlainAttrs T) (slot : Slot T name id) (hty : typeOf (.builtin id) = pure (.type "method_descriptor")) (hm : MtR X id r) (ho : PE X o to) (ha : PA X (e :: es) t)
    (hbase : attributeBase o name X.env (eval o X.env) = eval o X.env := by rfl)
    (hfew : ((backTo cpos (starEach (e :: es) X.env)).all (fun x => !x.1) && (backToKw cpos (keywordEach [] X.env)).all (fun x => x.1.isSome) && decide ((e :: es).length + ([] : List Keyword).length + (if ([] : List Keyword).isEmpty then 0 else 1) < 30)) = true := by rfl)
    (hline : (apos.endLine == cpos.line) = true := by rfl) (hs : starEach (e :: es) X.env = (false, eval e X.env) :: starEach es X.env := by rfl) (hplain : (backTo cpos (starEach es X.env)).any (·.1) = false := by rfl) :
    PE X (.Call (.Attribute o name apos) (e :: es) [] cpos) (tBM K T r to t) := by
  subst hK
  exact pe_bm pa slot hty hm ho ha hbase hfew hline hs hplain
end
noncomputable def adr (K : PySem.W.Frag) (x : Str) : Addr := match PySem.W.nsIn K mainGlobals x with
  | some (some (.ref a)) => a
  | _ => 0
theorem adr_of {K : PySem.W.Frag} {x : Str} {c : Addr} (h : PySem.W.nsIn K mainGlobals x = some (some (.ref c))) : adr K x = c := by
  unfold adr
  rw [h]
structure ExcOf (K : PySem.W.Frag) (mg : Str → Option Value) (x : Str) : Prop where
  mg : mg x = some (.ref (adr K x))
  cls : PySem.W.excIn K (adr K x) bmV newV = true
  own : PySem.W.exmOne K (.ref (adr K x)) (.ref (adr K x)) = some true
theorem excOf {K : PySem.W.Frag} {h : Heap} {mg : Str → Option Value} {x : Str} {c : Addr} (X : K.In h) (G : h.Ns mainGlobals mg) (q : PySem.W.nsIn K mainGlobals x = some (some (.ref c))) (e : PySem.W.excIn K c bmV newV = true) (m : PySem.W.exmOne K (.ref c) (.ref c) = some true) : ExcOf K mg x := by
  have z := adr_of q
  exact ⟨by rw [z]; exact PySem.W.mg_of X G q, by rw [z]; exact e, by rw [z]; exact m⟩
theorem DefX.toDef {P : Program} {w : World} {K : PySem.W.Frag} {mg : Str → Option Value} {base : Heap} {k : Nat} {x : Str} {ps : List Str} {sp : Sp} (D : DefX P w K mg base k x ps sp) : Def P w K mg base k x ps (fun vs H Q _ => sp vs H Q E0) := by
  obtain ⟨f, fd, F, hm, hk, hb⟩ := D.ex
  refine ⟨f, fd, ⟨fun vs H Q _ h => F.len vs H Q E0 h, fun A outer s H args us vs Q E hr he hbd hv hs => ?_⟩, hm, hk, hb⟩
  refine codeAny_mono (F.run A outer s H args us vs Q E0 hr he hbd hv hs) fun r s' h => ?_
  cases r with
  | ok f => cases f <;> exact h
  | error e =>
    obtain ⟨_, _, _, _, _, _, _, _, _, _, _, _, _, _, hE⟩ := h
    exact hE.elim
end L2

namespace L2
open PySem PySem.W PyProof.Rows
noncomputable def Good (n : Nat) (lt : Nat → Nat → Bool) {α : Type} : KasT α → (α → Prop) → Prop
  | .ret a, P => P a
  | .ask i j k, P => i < n ∧ j < n ∧ Good n lt (k (lt i j)) P
section
variable {N : Nat} {lt : Nat → Nat → Bool} {α β : Type}
theorem Good.mono {P R : α → Prop} (h : ∀ a, P a → R a) : ∀ {t : KasT α}, Good N lt t P → Good N lt t R
  | .ret a, g => h a g
  | .ask i j k, ⟨h1, h2, g⟩ => ⟨h1, h2, Good.mono h g⟩
theorem Good.bind {P : α → Prop} {R : β → Prop} {f : α → KasT β} (h : ∀ a, P a → Good N lt (f a) R) : ∀ {t : KasT α}, Good N lt t P → Good N lt (t.bind f) R
  | .ret a, g => h a g
  | .ask i j k, ⟨h1, h2, g⟩ => ⟨h1, h2, Good.bind h g⟩
theorem Good.wp {P : α → Prop} {Q : α → Shared → Prop} {s : Shared} {cmp : Nat → Nat → (Bool → Shared → Prop) → Shared → Prop} (hc : ∀ (i j : Nat) (C : Bool → Shared → Prop), i < N → j < N → C (lt i j) s → cmp i j C s)
    (h : ∀ a, P a → Q a s) : ∀ {t : KasT α}, Good N lt t P → t.kasWp cmp Q s
  | .ret a, g => h a g
  | .ask i j k, ⟨h1, h2, g⟩ => hc i j _ h1 h2 (Good.wp hc h g)
structure SOrd (N : Nat) (lt : Nat → Nat → Bool) : Prop where
  trans : ∀ i j k, lt i j = true → lt j k = true → lt i k = true
  total : ∀ i j, i < N → j < N → i ≠ j → lt i j = false → lt j i = true
  asym : ∀ i j, lt i j = true → lt j i = false
noncomputable def gt_ (p : Array Nat) (i : Nat) : Nat := p.getD i 0
theorem gt_at (p : Array Nat) (i : Nat) : gt_ p i = (p[i]?).getD 0 := by
  unfold gt_
  rw [Array.getD_eq_getD_getElem?]
structure Pm (N : Nat) (p : Array Nat) : Prop where
  perm : p.toList.Perm (List.range N)
theorem Pm.size {p : Array Nat} (h : Pm N p) : p.size = N := by
  have := h.perm.length_eq
  rwa [List.length_range, Array.length_toList] at this
theorem Pm.low {p : Array Nat} (h : Pm N p) {i : Nat} (hi : i < N) : gt_ p i < N := by
  have hs := h.size
  have e : gt_ p i = p[i]'(by (first | with_reducible assumption | lia | omega)) := by rw [gt_at, Array.getElem?_eq_getElem (by (first | with_reducible assumption | lia | omega))]; rfl
  rw [e]
  exact List.mem_range.mp (h.perm.mem_iff.mp (by rw [Array.mem_toList_iff]; exact Array.getElem_mem _))
theorem Pm.inj {p : Array Nat} (h : Pm N p) {i j : Nat} (hi : i < N) (hj : j < N) (e : gt_ p i = gt_ p j) : i = j := by
  have hs := h.size
  have nd : p.toList.Nodup := h.perm.nodup_iff.mpr List.nodup_range
  have hi' : i < p.toList.length := by rw [Array.length_toList]; (first | with_reducible assumption | lia | omega)
  have hj' : j < p.toList.length := by rw [Array.length_toList]; (first | with_reducible assumption | lia | omega)
  have e1 : p.toList[i] = gt_ p i := by rw [gt_at, Array.getElem?_eq_getElem (by (first | with_reducible assumption | lia | omega))]; simp
  have e2 : p.toList[j] = gt_ p j := by rw [gt_at, Array.getElem?_eq_getElem (by (first | with_reducible assumption | lia | omega))]; simp
  exact (List.getElem_inj nd).mp (by rw [e1, e2]; exact e)
theorem Pm.of {p q : Array Nat} (h : Pm N p) (x : q.Perm p) : Pm N q := ⟨(Array.perm_iff_toList_perm.mp x).trans h.perm⟩
theorem gt_rev {p : Array Nat} {n : Nat} (h : n ≤ p.size) (k : Nat) : gt_ (kas_rev p 0 n) k = if k < n then gt_ p (n - 1 - k) else gt_ p k := by
  unfold kas_rev
  rw [gt_at, getElem?_mirror_all h]
  by_cases c : k < n
  · rw [if_pos ⟨Nat.zero_le _, c⟩, if_pos c, gt_at, Nat.zero_add]
  · rw [if_neg (fun z => c z.2), if_neg c, gt_at]
theorem gt_bubble {p : Array Nat} {src d : Nat} (hs : src < p.size) (hd : d ≤ src) (k : Nat) : gt_ (bubble p src d) k = if k = src - d then gt_ p src else if src - d < k ∧ k ≤ src then gt_ p (k - 1) else gt_ p k := by
  rw [gt_at, getElem?_bubble hs d hd]
  by_cases c : k = src - d
  · rw [if_pos c, if_pos c, gt_at]
  · rw [if_neg c, if_neg c]
    by_cases c2 : src - d < k ∧ k ≤ src
    · rw [if_pos c2, if_pos c2, gt_at]
    · rw [if_neg c2, if_neg c2, gt_at]
noncomputable def Inc (lt : Nat → Nat → Bool) (p : Array Nat) (m : Nat) : Prop := ∀ i, i + 1 < m → lt (gt_ p i) (gt_ p (i + 1)) = true
noncomputable def Dec (lt : Nat → Nat → Bool) (p : Array Nat) (m : Nat) : Prop := ∀ i, i + 1 < m → lt (gt_ p (i + 1)) (gt_ p i) = true
theorem Inc.lt' {p : Array Nat} {m : Nat} (O : SOrd N lt) (h : Inc lt p m) {i : Nat} : ∀ {j : Nat}, i < j → j < m → lt (gt_ p i) (gt_ p j) = true
  | 0, h1, _ => by (first | with_reducible assumption | lia | omega)
  | j + 1, h1, h2 => by
    by_cases e : i = j
    · subst e; exact h i h2
    · exact O.trans _ _ _ (Inc.lt' O h (j := j) (by (first | with_reducible assumption | lia | omega)) (by (first | with_reducible assumption | lia | omega))) (h j h2)
variable (O : SOrd N lt)
include O
theorem up_of {p : Array Nat} (hp : Pm N p) {i j : Nat} (hi : i < N) (hj : j < N) (hne : i ≠ j) (h : lt (gt_ p i) (gt_ p j) = false) : lt (gt_ p j) (gt_ p i) = true :=
  O.total _ _ (hp.low hi) (hp.low hj) (fun z => hne (hp.inj hi hj z)) h
theorem good_asc {p : Array Nat} (hp : Pm N p) : ∀ (f n : Nat), 1 ≤ n → n + f ≤ N → Inc lt p n → Good N lt (kas_asc p f n) (fun m => n ≤ m ∧ m ≤ n + f ∧ Inc lt p m ∧ (m < n + f → lt (gt_ p m) (gt_ p (m - 1)) = true))
  | 0, n, _, _, hI => ⟨Nat.le_refl _, Nat.le_refl _, hI, fun h => by (first | with_reducible assumption | lia | omega)⟩
  | f + 1, n, h1, h2, hI => by
    refine ⟨hp.low (by (first | with_reducible assumption | lia | omega)), hp.low (by (first | with_reducible assumption | lia | omega)), ?_⟩
    show Good N lt (if lt (gt_ p n) (gt_ p (n - 1)) = true then KasT.ret n else kas_asc p f (n + 1)) _
    cases c : lt (gt_ p n) (gt_ p (n - 1)) with
    | true =>
      rw [if_pos rfl]
      exact ⟨Nat.le_refl _, by (first | with_reducible assumption | lia | omega), hI, fun _ => c⟩
    | false =>
      rw [if_neg (by decide)]
      refine (good_asc hp f (n + 1) (by (first | with_reducible assumption | lia | omega)) (by (first | with_reducible assumption | lia | omega)) fun i hi => ?_).mono fun m ⟨a, b, c', d⟩ => ⟨by (first | with_reducible assumption | lia | omega), by (first | with_reducible assumption | lia | omega), c', fun h => d (by (first | with_reducible assumption | lia | omega))⟩
      by_cases e : i + 1 = n
      · have e2 : i = n - 1 := by (first | with_reducible assumption | lia | omega)
        rw [e2] at *
        have e3 : n - 1 + 1 = n := by (first | with_reducible assumption | lia | omega)
        rw [e3]
        exact up_of O hp (by (first | with_reducible assumption | lia | omega)) (by (first | with_reducible assumption | lia | omega)) (by (first | with_reducible assumption | lia | omega)) c
      · exact hI i (by (first | with_reducible assumption | lia | omega))
theorem good_desc {p : Array Nat} (hp : Pm N p) : ∀ (f n : Nat), 1 ≤ n → n + f ≤ N → Dec lt p n → Good N lt (kas_desc f p n 0) (fun r => r.1 = p ∧ r.2.2 = 0 ∧ n ≤ r.2.1 ∧ r.2.1 ≤ n + f ∧ Dec lt p r.2.1)
  | 0, n, _, _, hD => ⟨rfl, rfl, Nat.le_refl _, Nat.le_refl _, hD⟩
  | f + 1, n, h1, h2, hD => by
    refine ⟨hp.low (by (first | with_reducible assumption | lia | omega)), hp.low (by (first | with_reducible assumption | lia | omega)), ?_⟩
    show Good N lt (if lt (gt_ p n) (gt_ p (n - 1)) = true then _ else _) _
    cases c : lt (gt_ p n) (gt_ p (n - 1)) with
    | true =>
      rw [if_pos rfl, if_neg (by decide)]
      refine (good_desc hp f (n + 1) (by (first | with_reducible assumption | lia | omega)) (by (first | with_reducible assumption | lia | omega)) fun i hi => ?_).mono fun r ⟨a, b, c', d, e⟩ => ⟨a, b, by (first | with_reducible assumption | lia | omega), by (first | with_reducible assumption | lia | omega), e⟩
      by_cases e : i + 1 = n
      · have e2 : i = n - 1 := by (first | with_reducible assumption | lia | omega)
        rw [e2] at *
        have e3 : n - 1 + 1 = n := by (first | with_reducible assumption | lia | omega)
        rw [e3]
        exact c
      · exact hD i (by (first | with_reducible assumption | lia | omega))
    | false =>
      rw [if_neg (by decide)]
      refine ⟨hp.low (by (first | with_reducible assumption | lia | omega)), hp.low (by (first | with_reducible assumption | lia | omega)), ?_⟩
      show Good N lt (if lt (gt_ p (n - 1)) (gt_ p n) = true then _ else _) _
      rw [if_pos (up_of O hp (by (first | with_reducible assumption | lia | omega)) (by (first | with_reducible assumption | lia | omega)) (by (first | with_reducible assumption | lia | omega)) c)]
      exact ⟨rfl, rfl, Nat.le_refl _, Nat.le_add_right _ _, hD⟩
theorem good_tail {p : Array Nat} (hp : Pm N p) {n : Nat} (h1 : 1 ≤ n) (h2 : n ≤ N) (hD : Dec lt p n) : Good N lt (kas_tail3 n N p) (fun r => Pm N r.2 ∧ 1 ≤ r.1 ∧ r.1 ≤ N ∧ Inc lt r.2 r.1) := by
  have hz := hp.size
  have hq : Pm N (kas_rev p 0 n) := hp.of (mirror_perm _ _ _ _)
  have hI : Inc lt (kas_rev p 0 n) n := fun i hi => by
    rw [gt_rev (by (first | with_reducible assumption | lia | omega)), gt_rev (by (first | with_reducible assumption | lia | omega)), if_pos (by (first | with_reducible assumption | lia | omega)), if_pos hi]
    have e : n - 1 - i = n - 1 - (i + 1) + 1 := by (first | with_reducible assumption | lia | omega)
    rw [e]
    exact hD _ (by (first | with_reducible assumption | lia | omega))
  exact Good.bind (fun m ⟨a, b, c, d⟩ => ⟨hq, by (first | with_reducible assumption | lia | omega), by (first | with_reducible assumption | lia | omega), c⟩) (good_asc O hq (N - n) n h1 (by (first | with_reducible assumption | lia | omega)) hI)
theorem good_count {p : Array Nat} (hp : Pm N p) (hN : 1 ≤ N) : Good N lt (kas_count N p) (fun r => Pm N r.2 ∧ 1 ≤ r.1 ∧ r.1 ≤ N ∧ Inc lt r.2 r.1) := by
  refine Good.bind (fun m ⟨a, b, c, d⟩ => ?_) (good_asc O hp (N - 1) 1 (Nat.le_refl _) (by (first | with_reducible assumption | lia | omega)) fun i hi => by (first | with_reducible assumption | lia | omega))
  by_cases e : m = N
  · subst e
    rw [if_pos (by simp)]
    exact ⟨hp, a, Nat.le_refl _, c⟩
  · rw [if_neg (by simpa using e)]
    by_cases e2 : m > 1
    · rw [if_pos e2]
      refine ⟨hp.low (by (first | with_reducible assumption | lia | omega)), hp.low (by (first | with_reducible assumption | lia | omega)), ?_⟩
      show Good N lt (if lt (gt_ p 0) (gt_ p (m - 1)) = true then _ else _) _
      rw [if_pos (Inc.lt' O c (by (first | with_reducible assumption | lia | omega)) (by (first | with_reducible assumption | lia | omega)))]
      exact ⟨hp, a, by (first | with_reducible assumption | lia | omega), c⟩
    · rw [if_neg e2]
      have e3 : m = 1 := by (first | with_reducible assumption | lia | omega)
      subst e3
      have hlt := d (by (first | with_reducible assumption | lia | omega))
      refine Good.bind (fun r ⟨r1, r2, r3, r4, r5⟩ => ?_) (good_desc O hp (N - 2) 2 (by (first | with_reducible assumption | lia | omega)) (by (first | with_reducible assumption | lia | omega)) fun i hi => by
        have : i = 0 := by (first | with_reducible assumption | lia | omega)
        subst this
        exact hlt)
      rw [if_neg (by rw [r2]; decide), r1]
      exact good_tail O hp (by (first | with_reducible assumption | lia | omega)) (by (first | with_reducible assumption | lia | omega)) r5
theorem good_place {p : Array Nat} (hp : Pm N p) {k : Nat} (hk : k < N) (hI : Inc lt p k) : ∀ (f l r : Nat), l ≤ r → r ≤ k → r - l ≤ f → (∀ i, i < l → lt (gt_ p i) (gt_ p k) = true) → (∀ i, r ≤ i → i < k → lt (gt_ p k) (gt_ p i) = true) →
    Good N lt (kas_place p k f l r) (fun l' => l' ≤ k ∧ (∀ i, i < l' → lt (gt_ p i) (gt_ p k) = true) ∧ ∀ i, l' ≤ i → i < k → lt (gt_ p k) (gt_ p i) = true)
  | 0, l, r, h1, h2, h3, hl, hr => by
    have : l = r := by (first | with_reducible assumption | lia | omega)
    subst this
    exact ⟨h2, hl, hr⟩
  | f + 1, l, r, h1, h2, h3, hl, hr => by
    unfold kas_place
    by_cases c : l ≥ r
    · rw [if_pos c]
      have : l = r := by (first | with_reducible assumption | lia | omega)
      subst this
      exact ⟨h2, hl, hr⟩
    · rw [if_neg c]
      have hm : (l + r) / 2 < r := by (first | with_reducible assumption | lia | omega)
      have hm2 : l ≤ (l + r) / 2 := by (first | with_reducible assumption | lia | omega)
      generalize (l + r) / 2 = m at hm hm2
      refine ⟨hp.low hk, hp.low (by (first | with_reducible assumption | lia | omega)), ?_⟩
      show Good N lt (if lt (gt_ p k) (gt_ p m) = true then _ else _) _
      cases b : lt (gt_ p k) (gt_ p m) with
      | true =>
        rw [if_pos rfl]
        refine good_place hp hk hI f l m hm2 (by (first | with_reducible assumption | lia | omega)) (by (first | with_reducible assumption | lia | omega)) hl fun i a1 a2 => ?_
        by_cases e : i = m
        · subst e; exact b
        · exact O.trans _ _ _ b (Inc.lt' O hI (by (first | with_reducible assumption | lia | omega)) a2)
      | false =>
        rw [if_neg (by decide)]
        have b' := up_of O hp hk (by (first | with_reducible assumption | lia | omega)) (by (first | with_reducible assumption | lia | omega)) b
        refine good_place hp hk hI f (m + 1) r (by (first | with_reducible assumption | lia | omega)) h2 (by (first | with_reducible assumption | lia | omega)) (fun i a1 => ?_) hr
        by_cases e : i = m
        · subst e; exact b'
        · exact O.trans _ _ _ (Inc.lt' O hI (by (first | with_reducible assumption | lia | omega)) (by (first | with_reducible assumption | lia | omega))) b'
theorem good_bin : ∀ (f : Nat) (p : Array Nat) (k : Nat), Pm N p → 1 ≤ k → k + f = N → Inc lt p k → Good N lt (kas_bin f p k) (fun q => Pm N q ∧ Inc lt q N)
  | 0, p, k, hp, _, h2, hI => by
    have : k = N := by (first | with_reducible assumption | lia | omega)
    subst this
    exact ⟨hp, hI⟩
  | f + 1, p, k, hp, h1, h2, hI => by
    have hz := hp.size
    refine Good.bind (fun l ⟨a, b, c⟩ => ?_) (good_place O hp (by (first | with_reducible assumption | lia | omega)) hI k 0 k (Nat.zero_le _) (Nat.le_refl _) (by (first | with_reducible assumption | lia | omega)) (fun i h => by (first | with_reducible assumption | lia | omega)) fun i h h' => by (first | with_reducible assumption | lia | omega))
    refine good_bin f (bubble p k (k - l)) (k + 1) (hp.of (bubble_perm _ _ _)) (by (first | with_reducible assumption | lia | omega)) (by (first | with_reducible assumption | lia | omega)) fun i hi => ?_
    have ek : k - (k - l) = l := by (first | with_reducible assumption | lia | omega)
    rw [gt_bubble (by (first | with_reducible assumption | lia | omega)) (by (first | with_reducible assumption | lia | omega)), gt_bubble (by (first | with_reducible assumption | lia | omega)) (by (first | with_reducible assumption | lia | omega)), ek]
    by_cases c1 : i + 1 < l
    · rw [if_neg (by (first | with_reducible assumption | lia | omega)), if_neg (by (first | with_reducible assumption | lia | omega)), if_neg (by (first | with_reducible assumption | lia | omega)), if_neg (by (first | with_reducible assumption | lia | omega))]
      exact hI i (by (first | with_reducible assumption | lia | omega))
    · by_cases c2 : i + 1 = l
      · rw [if_neg (by (first | with_reducible assumption | lia | omega)), if_neg (by (first | with_reducible assumption | lia | omega)), if_pos c2]
        exact b i (by (first | with_reducible assumption | lia | omega))
      · by_cases c3 : i = l
        · rw [if_pos c3, if_neg (by (first | with_reducible assumption | lia | omega)), if_pos (by (first | with_reducible assumption | lia | omega)), Nat.add_sub_cancel]
          exact c i (by (first | with_reducible assumption | lia | omega)) (by (first | with_reducible assumption | lia | omega))
        · rw [if_neg c3, if_pos (by (first | with_reducible assumption | lia | omega)), if_neg (by (first | with_reducible assumption | lia | omega)), if_pos (by (first | with_reducible assumption | lia | omega)), Nat.add_sub_cancel]
          have := hI (i - 1) (by (first | with_reducible assumption | lia | omega))
          have e : i - 1 + 1 = i := by (first | with_reducible assumption | lia | omega)
          rw [e] at this
          exact this
theorem good_sort (hN : 1 ≤ N) : Good N lt (kas_sort N) (fun q => Pm N q ∧ Inc lt q N) := by
  have hp : Pm N (List.toArray (List.range N)) := ⟨by simp⟩
  refine Good.bind (fun r ⟨a, b, c, d⟩ => ?_) (good_count O hp hN)
  by_cases e : r.1 < N
  · rw [if_pos e]
    have em : max r.1 1 = r.1 := by (first | with_reducible assumption | lia | omega)
    rw [em]
    exact good_bin O _ _ _ a b (by (first | with_reducible assumption | lia | omega)) d
  · rw [if_neg e]
    have e2 : r.1 = N := by (first | with_reducible assumption | lia | omega)
    rw [e2] at d
    exact ⟨a, d⟩
end
end L2

namespace L2
open PySem PyProof.Rows
section
open PySem.SeqAt
open PySem.AutoSeq1 (wpAny_loadPart')
open PySem.MeetsSeq PySem.MeetsSeq3
theorem ints_at {items : Array Value} {ns : List Int} (h : IntsAre items.toList ns) {i : Nat} (hi : i < items.size) : ∃ t, items[i] = .int (ns.getD i 0) t := by
  have go : ∀ (vs : List Value) (ms : List Int), IntsAre vs ms → ∀ i (h : i < vs.length), ∃ t, vs[i] = .int (ms.getD i 0) t := by
    intro vs ms hm
    induction hm with
    | nil => intro i h; cases h
    | cons a t r ih =>
      intro i h
      cases i with
      | zero => exact ⟨t, rfl⟩
      | succ i =>
        obtain ⟨u, e⟩ := ih i (Nat.lt_of_succ_lt_succ h)
        exact ⟨u, e⟩
  obtain ⟨t, e⟩ := go _ _ h i (by rw [Array.length_toList]; exact hi)
  exact ⟨t, by simpa using e⟩
theorem drop_getD {ns : List Int} {i : Nat} (h : i < ns.length) : ns.drop i = ns.getD i 0 :: ns.drop (i + 1) := by
  rw [List.drop_eq_getElem_cons h]
  simp [h]
theorem lt_loop (l b : Addr) (items items2 : Array Value) (n n2 : Nat) (ns ms : List Int) (hi : IntsAre items.toList ns) (hj : IntsAre items2.toList ms) (hsz : items.size = items2.size) (k : Nat) :
    ∀ i : Nat, items.size - i = k → Meets (Builtin.«list.__eq__.loop» ⟨[.ref l, .ref b, rawInt i, rawInt 0], []⟩)
      (fun _ R s => s.heap.get? l = some { cls := .type "list", dict := none, data := .seq items n, slots := #[] } ∧ s.heap.get? b = some { cls := .type "list", dict := none, data := .seq items2 n2, slots := #[] } ∧
        R (.ok (.ret (.bool (HT.lexLt (ns.drop i) (ms.drop i))))) s) := by
  have z1 : items.size = ns.length := by rw [← hi.length]; simp
  have z2 : items2.size = ms.length := by rw [← hj.length]; simp
  induction k with
  | zero =>
    intro i hk prog w A R s h
    obtain ⟨hp, g, d, tk, os⟩ := s; obtain ⟨hl, hb, h⟩ := h
    wp_walk using wpAny_loadPart' hl, wpAny_loadPart' hb
    have hi1 : items[((i : Nat) : Int).toNat]? = none := by simp; (first | with_reducible assumption | lia | omega)
    have hi2 : items2[((i : Nat) : Int).toNat]? = none := by simp; (first | with_reducible assumption | lia | omega)
    rw [List.drop_eq_nil_of_le (by (first | with_reducible assumption | lia | omega)), List.drop_eq_nil_of_le (by (first | with_reducible assumption | lia | omega))] at h
    rw [hi1, hi2]
    wp_walk using wpAny_loadPart' hl, wpAny_loadPart' hb
    show R (.ok (.ret (.bool (decide (items.size < items2.size))))) _
    rw [hsz, decide_eq_false (Nat.lt_irrefl _)]
    exact h
  | succ k ih =>
    intro i hk prog w A R s h
    obtain ⟨hp, g, d, tk, os⟩ := s; obtain ⟨hl, hb, h⟩ := h
    wp_walk using wpAny_loadPart' hl, wpAny_loadPart' hb
    have hlt : i < items.size := by (first | with_reducible assumption | lia | omega)
    have hlt2 : i < items2.size := by (first | with_reducible assumption | lia | omega)
    have hi1 : items[((i : Nat) : Int).toNat]? = some items[i] := by simp [hlt]
    have hi2 : items2[((i : Nat) : Int).toNat]? = some items2[i] := by simp [hlt2]
    have hc : ((i : Int) + 1) = ((i + 1 : Nat) : Int) := by push_cast; rfl
    rw [drop_getD (by (first | with_reducible assumption | lia | omega)), drop_getD (ns := ms) (by (first | with_reducible assumption | lia | omega)), HT.lexLt_cons] at h
    obtain ⟨t, et⟩ := ints_at hi hlt
    obtain ⟨u, eu⟩ := ints_at hj hlt2
    rw [hi1, hi2, et, eu]
    obtain ⟨e, he, hiff⟩ := HT.eqAt_int A.in1 ⟨hp, g, d, tk, os⟩ (ns.getD i 0) t (ms.getD i 0) u
    refine wpAny_bind (he prog w _ _ ?_)
    cases e with
    | true =>
      rw [if_pos (hiff.mp rfl)] at h
      wp_walk
      rw [hc]
      exact ⟨plainId_quiet plain_eq_loop _, codeAny_builtin entry_eq_loop (by
        rw [Around.under_plainId plain_eq_loop _]
        exact ih (i + 1) (by (first | with_reducible assumption | lia | omega)) prog w A R _ ⟨hl, hb, h⟩)⟩
    | false =>
      rw [if_neg (fun q => absurd (hiff.mpr q) Bool.false_ne_true)] at h
      have hri := HT.rcLt_int A.in1 ⟨hp, g, d, tk, os⟩ (ns.getD i 0) t (ms.getD i 0) u prog w
      wp_walk using wpAny_loadPart' hl, wpAny_loadPart' hb
      rw [hi1, hi2, et, eu]
      wp_walk using hri
      exact h
theorem list_lt (l b : Addr) (items items2 : Array Value) (n n2 : Nat) (ns ms : List Int) (hi : IntsAre items.toList ns) (hj : IntsAre items2.toList ms) (hsz : items.size = items2.size) :
    Meets (Builtin.«list.__lt__» ⟨[.ref l, .ref b], []⟩)
      (fun _ R s => s.heap.get? l = some { cls := .type "list", dict := none, data := .seq items n, slots := #[] } ∧ s.heap.get? b = some { cls := .type "list", dict := none, data := .seq items2 n2, slots := #[] } ∧
        R (.ok (.ret (.bool (HT.lexLt ns ms)))) s) := by
  intro prog w A R s h
  obtain ⟨hp, g, d, tk, os⟩ := s; obtain ⟨hl, hb, h⟩ := h
  have f3 := AutoSeq1.sub_list_list
  wp_walk using wpAny_loadPart' hl, wpAny_loadPart' hb
  exact ⟨plainId_quiet plain_eq_loop _, codeAny_builtin entry_eq_loop (by
    rw [Around.under_plainId plain_eq_loop _]
    exact lt_loop l b items items2 n n2 ns ms hi hj hsz _ 0 rfl prog w A R _ ⟨hl, hb, h⟩)⟩
end
end L2

namespace L2
open PySem PyProof.Rows
section
variable {prog : Program} {w : World} {A : Around} {E : Value → Shared → Prop} {s : Shared}
theorem key_list {x y : Addr} {items items2 : Array Value} {n n2 : Nat} {ns ms : List Int} {Q : Bool → Shared → Prop} (hx : s.heap.get? x = some { cls := .type "list", data := .seq items n }) (hy : s.heap.get? y = some { cls := .type "list", data := .seq items2 n2 })
    (hi : IntsAre items.toList ns) (hj : IntsAre items2.toList ms) (hsz : items.size = items2.size) (hu : A.units < cLine) (h : Q (HT.lexLt ns ms) s) : wpAny (model prog w) A (keyLt' oneType' (.ref x) (.ref y)) Q E s := by
  rw [keyLt'_oneType, oneLt'_eq]
  simp only [if_true]
  refine wpAny_bind (wpAny_cRoomFor hu ?_)
  refine wpAny_bind (wpAny_callSpecialIfBound?_slot (⟨_, hx, rfl⟩ : s.TypeIs (.ref x) "list") F.slot_list_lt (call_meets F.slot_list_lt ⟨_, hx, rfl⟩ F.entry_list_lt (F.args_list_lt_2 _ _) (list_lt x y items items2 n n2 ns ms hi hj hsz) ⟨hx, hy, ?_⟩))
  exact wpAny_truthy_bool h
open PySem.W in
theorem sort_asked {a : Addr} {vs : List Value} {n : Nat} {lt : Nat → Nat → Bool} {P : PySem.Fin → Shared → Prop} (ho : s.heap.get? a = some (seqObj "list" vs.toArray n)) (h1 : 1 ≤ vs.length) (h64 : vs.length < 64) (O : SOrd vs.length lt)
    (hT : ∀ h' : Heap, (∀ b o, b ≠ a → s.heap.get? b = some o → h'.get? b = some o) → ∀ v ∈ vs, Looks (model prog w) h' (typeOf v) (.type "list"))
    (hc : ∀ h' : Heap, (∀ b o, b ≠ a → s.heap.get? b = some o → h'.get? b = some o) → ∀ (i j : Nat) (C : Bool → Shared → Prop), i < vs.length → j < vs.length → C (lt i j) { s with heap := h' } → kas_ask prog w A oneType' vs i j C { s with heap := h' })
    (h : ∀ p : Array Nat, Pm vs.length p → Inc lt p vs.length → P (.done (.ret .none)) { s with heap := sortedHeap s.heap a vs (List.toArray (p.toList.map fun i => vs.getD i Value.none)) }) :
    wpAny (model prog w) A (Builtin.«list.sort» ⟨[.ref a], []⟩) P E s := by
  have lta : a < s.heap.objs.size := Heap.lt_size ho
  have small : vs.length ≤ sizeLine := by rw [sizeLine_eq]; (first | with_reducible assumption | lia | omega)
  obtain ⟨e1, ho1⟩ : ∃ e1, (s.heap.update a (Obj.mapSeq fun _ => (#[] : Array Value))).get? a = some (seqObj "list" #[] e1) := ⟨_, get?_update_seq ho fun _ => #[]⟩
  have kp : ∀ b o, b ≠ a → s.heap.get? b = some o → (((s.heap.update a (Obj.mapSeq fun _ => (#[] : Array Value))).push (seqObj "tuple" vs.toArray 0)).push (seqObj "list" #[] 0)).get? b = some o := fun b o hb e =>
    Heap.get?_push_of_some _ (Heap.get?_push_of_some _ ((Heap.get?_update_other _ _ (Ne.symm hb)).trans e))
  have hoA : (((s.heap.update a (Obj.mapSeq fun _ => (#[] : Array Value))).push (seqObj "tuple" vs.toArray 0)).push (seqObj "list" #[] 0)).get? a = some (seqObj "list" #[] e1) := Heap.get?_push_of_some _ (Heap.get?_push_of_some _ ho1)
  have fin : ∀ (st' : SortSt) (out : Array Value), (arrOf st').map (·.2) = out → failedOf st' = none → out.size ≤ sizeLine → P (.done (.ret .none)) { s with heap := sortedHeap s.heap a vs out } →
      wpAny (model prog w) A (do
        let touched := (← seqEpoch a) != e1
        Builtin.List.listUpdate (.ref a) fun _ => (arrOf st').map (·.2)
        if let some e := failedOf st' then rule "list.sort.comparison-raised"; throw e
        if touched then rule "list.sort.modified"; raiseError "ValueError" "list modified during sort"
        ret .none) P E { s with heap := ((s.heap.update a (Obj.mapSeq fun _ => (#[] : Array Value))).push (seqObj "tuple" vs.toArray 0)).push (seqObj "list" #[] 0) } := fun st' out eo hf hz hP => by
    rw [eo, hf]
    refine wpAny_bind (seqEpoch_at hoA rfl (wpAny_bind (listUpdate_at hoA rfl ?_ (Nat.zero_le _) (Nat.le_succ_of_le hz))))
    simp only [bne_self_eq_false, Bool.false_eq_true, if_false]
    exact wpAny_pure hP
  rw [list_sort_plain]
  refine wpAny_bind (listItems_at ho rfl (wpAny_bind (listUpdate_at ho rfl ?_ (by rw [List.size_toArray]; exact small) (Nat.zero_le _))))
  refine wpAny_bind (seqEpoch_at ho1 rfl (wpAny_bind (wpAny_newTuple (wpAny_bind (wpAny_newList (wpAny_holding ?_) (Nat.zero_le _))) small)))
  try dsimp only
  by_cases c : vs.toArray.size < 2
  · rw [if_pos c, if_pos c]
    refine wpAny_bind (wpAny_pure ?_)
    rw [StateT.run_pure]
    refine wpAny_bind (wpAny_pure ?_)
    have e1' : vs.length = 1 := by rw [List.size_toArray] at c; (first | with_reducible assumption | lia | omega)
    refine fin (SortSt.mk' general' (vs.toArray.zip vs.toArray) #[] 7 none) vs.toArray ?_ rfl (by rw [List.size_toArray]; exact small) ?_
    · obtain ⟨v, rfl⟩ := List.length_eq_one_iff.mp e1'
      show ((#[v] : Array Value).zip #[v]).map (·.2) = #[v]
      simp
    · have := h (List.toArray (List.range vs.length)) ⟨by simp⟩ (fun i hi => by (first | with_reducible assumption | lia | omega))
      obtain ⟨v, rfl⟩ := List.length_eq_one_iff.mp e1'
      exact this
  · rw [if_neg c, if_neg c]
    have c2 : 2 ≤ vs.length := by rw [List.size_toArray] at c; (first | with_reducible assumption | lia | omega)
    refine wpAny_bind (kas_kind c2 (hT _ kp) (by decide) (by rfl) ?_)
    have est : SortSt.mk' oneType' (vs.toArray.zip vs.toArray) #[] 7 none = kas_st oneType' (pairsOf vs) (List.toArray (List.range vs.length)) := by
      have er := kas_range (pairsOf vs)
      rw [pairsOf_size] at er
      unfold kas_st
      rw [er]
      rfl
    have ask : (kas_sort vs.length).kasWp (kas_cmp prog w A oneType' (pairsOf vs)) (fun p s' => s' = { s with heap := ((s.heap.update a (Obj.mapSeq fun _ => (#[] : Array Value))).push (seqObj "tuple" vs.toArray 0)).push (seqObj "list" #[] 0) } ∧ Pm vs.length p ∧ Inc lt p vs.length)
        { s with heap := ((s.heap.update a (Obj.mapSeq fun _ => (#[] : Array Value))).push (seqObj "tuple" vs.toArray 0)).push (seqObj "list" #[] 0) } := by
      rw [← kas_ask_eq]
      exact Good.wp (P := fun q => Pm vs.length q ∧ Inc lt q vs.length) (hc _ kp) (fun p hp => ⟨rfl, hp⟩) (good_sort O h1)
    have run := kas_runs (E := E) (Q := fun _ st' s' => ∃ p : Array Nat, arrOf st' = p.map (kas_item (pairsOf vs)) ∧ failedOf st' = none ∧ s' = { s with heap := ((s.heap.update a (Obj.mapSeq fun _ => (#[] : Array Value))).push (seqObj "tuple" vs.toArray 0)).push (seqObj "list" #[] 0) } ∧ Pm vs.length p ∧ Inc lt p vs.length)
      c2 h64 (fun p' st' s' a1 a2 a3 a4 => ⟨p', a2, a3, a4⟩) ask
    rw [est]
    refine wpAny_bind (wpAny_mono run ?_ fun _ _ e => e)
    rintro ⟨⟨⟩, st'⟩ s' ⟨p, har, hf, rfl, hp, hI⟩
    refine fin st' _ ?_ hf ?_ (h p hp hI)
    · apply Array.toList_inj.mp
      rw [har, Array.map_map, Array.toList_map]
      exact List.map_congr_left fun i _ => by show (kas_item (pairsOf vs) i).2 = _; rw [kas_item_eq]
    · rw [List.size_toArray, List.length_map, Array.length_toList, hp.size]
      exact small
end
end L2

namespace L2
open PySem PySem.Spec PyProof.Rows
section
variable {prog : Program} {w : World} {A : Around} {E : Value → Shared → Prop} {s : Shared}
theorem sorted_asked {l : Addr} {vs : List Value} {lt : Nat → Nat → Bool} {Q : Value → Shared → Prop} (hl : s.heap.IsList l vs.toArray) (h1 : 1 ≤ vs.length) (h64 : vs.length < 64) (O : SOrd vs.length lt)
    (hT : ∀ h' : Heap, (∀ b o, s.heap.get? b = some o → h'.get? b = some o) → ∀ v ∈ vs, PySem.W.Looks (model prog w) h' (typeOf v) (.type "list"))
    (hc : ∀ h' : Heap, (∀ b o, s.heap.get? b = some o → h'.get? b = some o) → ∀ (i j : Nat) (C : Bool → Shared → Prop), i < vs.length → j < vs.length → C (lt i j) { s with heap := h' } → PySem.W.kas_ask prog w A.in1.in1 oneType' vs i j C { s with heap := h' })
    (h : ∀ p : Array Nat, Pm vs.length p → Inc lt p vs.length → Q (.ref (s.heap.objs.size + 1)) { s with heap := sortedAll s.heap vs (List.toArray (p.toList.map fun i => vs.getD i Value.none)) }) :
    wpAny (model prog w) A (call (.builtin "sorted") [.ref l]) Q E s := by
  have small : vs.length ≤ sizeLine := by rw [sizeLine_eq]; (first | with_reducible assumption | lia | omega)
  refine Calls.call_function_entry (Q := Q) kind_sorted plain_sorted entry_sorted (args_sorted1 _) ?_
  unfold Builtin.«sorted»
  refine wpAny_bind (m := checkCount "sorted" 1 1 _) (wpAny_pure (wpAny_bind (collect_list hl (wpAny_bind (wpAny_newList ?_ small)) small)))
  have zz : ((s.heap.push (seqObj "list" #[] 0)).update s.heap.objs.size (Obj.mapSeq (· ++ vs.toArray))).objs.size = s.heap.objs.size + 1 := (Heap.size_update _ _ _).trans (size_push' _ _)
  have old : ∀ b o, s.heap.get? b = some o → (((s.heap.push (seqObj "list" #[] 0)).update s.heap.objs.size (Obj.mapSeq (· ++ vs.toArray))).push (seqObj "list" vs.toArray 0)).get? b = some o := fun b o e =>
    Heap.get?_push_of_some _ ((Heap.get?_update_other _ _ (Ne.symm (Nat.ne_of_lt (Heap.lt_size e)))).trans (Heap.get?_push_of_some _ e))
  have new : (((s.heap.push (seqObj "list" #[] 0)).update s.heap.objs.size (Obj.mapSeq (· ++ vs.toArray))).push (seqObj "list" vs.toArray 0)).get? (s.heap.objs.size + 1) = some (seqObj "list" vs.toArray 0) := by
    rw [← zz]; exact Heap.get?_push_size _ rfl
  have ne : ∀ b o, s.heap.get? b = some o → b ≠ s.heap.objs.size + 1 := fun b o e => Nat.ne_of_lt (Nat.lt_succ_of_lt (Heap.lt_size e))
  show wpAny _ _ _ _ _ { s with heap := ((s.heap.push (seqObj "list" #[] 0)).update s.heap.objs.size (Obj.mapSeq (· ++ vs.toArray))).push (seqObj "list" vs.toArray 0) }
  rw [zz]
  refine wpAny_bind (wpAny_holding (wpAny_call_entry slot_list_sort ⟨_, new, rfl⟩ entry_list_sort ?_ (args_list_sort _)))
  refine sort_asked (s := { s with heap := ((s.heap.push (seqObj "list" #[] 0)).update s.heap.objs.size (Obj.mapSeq (· ++ vs.toArray))).push (seqObj "list" vs.toArray 0) }) new h1 h64 O
    (fun h' k => hT h' fun b o e => k b o (ne b o e) (old b o e)) (fun h' k => hc h' fun b o e => k b o (ne b o e) (old b o e)) fun p hp hI => ⟨_, rfl, wpAny_pure ⟨_, rfl, h p hp hI⟩⟩
end
theorem vals_refsV : ∀ {as : List Addr} {us : List Value}, Vals (as.map V.ref) us → us = as.map Value.ref
  | [], [], .nil => rfl
  | a :: as, u :: us, .cons r rr => by
    have e : u = .ref a := r
    rw [e, vals_refsV rr]
    rfl
theorem vals_got {as : List Addr} : ∀ {ps : List Nat}, (∀ i ∈ ps, i < as.length) → Vals (ps.map fun i => V.ref (as.getD i 0)) (ps.map fun i => (as.map Value.ref).getD i Value.none)
  | [], _ => .nil
  | i :: ps, h => by
    have hi := h i (.head _)
    refine .cons ?_ (vals_got fun j hj => h j (.tail _ hj))
    have e : (as.map Value.ref).getD i Value.none = .ref (as.getD i 0) := by simp [hi]
    show RelV (.ref (as.getD i 0)) ((as.map Value.ref).getD i Value.none)
    rw [e]
    exact rfl
section
variable {X : Cx}
noncomputable def rowLt (rows : List (List Int)) (i j : Nat) : Bool := HT.lexLt (rows.getD i []) (rows.getD j [])
structure Rws (H : Hp) (as : List Addr) (rows : List (List Int)) (m : Nat) : Prop where
  len : as.length = rows.length
  at_ : ∀ (i : Nat) (a : Addr), as[i]? = some a → H a = some (.lst ((rows.getD i []).map V.int))
  size : ∀ r ∈ rows, r.length = m
  nd : rows.Nodup
theorem Rws.ord {H : Hp} {as : List Addr} {rows : List (List Int)} {m : Nat} (R : Rws H as rows m) : SOrd as.length (rowLt rows) := by
  refine ⟨fun i j k h1 h2 => lex_trans h1 h2, fun i j hi hj hne h => ?_, fun i j h => ?_⟩
  · cases c : rowLt rows j i with
    | true => rfl
    | false =>
      have hl := R.len
      have hi' : i < rows.length := by (first | with_reducible assumption | lia | omega)
      have hj' : j < rows.length := by (first | with_reducible assumption | lia | omega)
      have g : ∀ k, k < rows.length → (rows.getD k []) ∈ rows := fun k hk => by
        rw [List.getD_eq_getElem?_getD, List.getElem?_eq_getElem hk]
        exact List.getElem_mem hk
      have e := lex_total (x := rows.getD i []) (y := rows.getD j []) (by rw [R.size _ (g i hi'), R.size _ (g j hj')]) h c
      rw [List.getD_eq_getElem?_getD, List.getD_eq_getElem?_getD, List.getElem?_eq_getElem hi', List.getElem?_eq_getElem hj'] at e
      exact absurd ((List.getElem_inj R.nd).mp e) hne
  · cases c : rowLt rows j i with
    | false => rfl
    | true =>
      have := lex_trans h c
      rw [lex_irr] at this
      cases this
noncomputable def rSortedLL (K : PySem.W.Frag) : List V → Hp → VK → Prop := fun xs H Q => ∃ (p : Addr) (as : List Addr) (rows : List (List Int)) (m : Nat), xs = [.ref p] ∧ SqL K H p (as.map V.ref) ∧ Rws H as rows m ∧ 1 ≤ as.length ∧ as.length < 64 ∧
  ∀ (l : Addr) (ps : List Nat), H l = none → ps.Perm (List.range as.length) → (ps.map fun i => rows.getD i []).Pairwise (fun x y => HT.lexLt x y = true) → Q (.ref l) (upd H l (.lst (ps.map fun i => V.ref (as.getD i 0))))
theorem call_sortedLL (hu : X.A.units + 2 < cLine) : CallR X (.builtin "sorted") (rSortedLL X.K) := by
  intro pins s σ H xs us Q I r h
  obtain ⟨p, as, rows, m, rfl, hq, R, h1, h64, q⟩ := h
  obtain ⟨u, rfl, rx⟩ := vals1 r
  cases rx
  obtain ⟨its, r', pl, hz⟩ := I.list hq
  have ei := vals_refsV r'
  subst ei
  have hlm : (as.map Value.ref).length = as.length := List.length_map _
  have got : ∀ (i : Nat), i < as.length → ∃ (a : Addr) (items : List Value) (n : Nat), (as.map Value.ref).getD i Value.none = .ref a ∧ s.heap.get? a = some { cls := .type "list", data := .seq items.toArray n } ∧ IntsAre items (rows.getD i []) ∧ items.length = m := fun i hi => by
    have ea : as[i]? = some as[i] := List.getElem?_eq_getElem hi
    obtain ⟨_, its2, n, rv, e⟩ := I.hok _ _ (R.at_ i as[i] ea)
    have hl := R.len
    refine ⟨as[i], its2, n, by simp [hi], e, intsAre_of rv, ?_⟩
    have := rv.length
    rw [List.length_map] at this
    rw [← this]
    exact R.size _ (by rw [List.getD_eq_getElem?_getD, List.getElem?_eq_getElem (by (first | with_reducible assumption | lia | omega))]; exact List.getElem_mem _)
  refine sorted_asked (vs := as.map Value.ref) (lt := rowLt rows) pl.isList (by (first | with_reducible assumption | lia | omega)) (by (first | with_reducible assumption | lia | omega)) (by rw [hlm]; exact R.ord) (fun h' k v hv => ?_) (fun h' k i j C hi hj hC => ?_) fun p hp hI => ?_
  · obtain ⟨i, hi, rfl⟩ := List.getElem_of_mem hv
    rw [hlm] at hi
    obtain ⟨a, items, n, e1, e2, _⟩ := got i hi
    have e3 : (as.map Value.ref)[i] = .ref a := by rw [← e1]; simp [hi]
    rw [e3]
    exact (PySem.W.Looks.ld (k _ _ e2)).andThen .now
  · rw [hlm] at hi hj
    obtain ⟨a, items, n, e1, e2, e3, e4⟩ := got i hi
    obtain ⟨b, items2, n2, f1, f2, f3, f4⟩ := got j hj
    unfold PySem.W.kas_ask
    rw [e1, f1]
    exact key_list (s := { s with heap := h' }) (k _ _ e2) (k _ _ f2) (by simpa using e3) (by simpa using f3) (by rw [List.size_toArray, List.size_toArray, e4, f4]) (by show X.A.units + 1 + 1 < cLine; exact hu) hC
  · rw [hlm] at hp hI
    obtain ⟨e, he⟩ := sortedAll_at s.heap (as.map Value.ref) (List.toArray (p.toList.map fun i => (as.map Value.ref).getD i Value.none))
    have hin : ∀ i ∈ p.toList, i < as.length := fun i hi => List.mem_range.mp (hp.perm.mem_iff.mp hi)
    have rv : Vals (p.toList.map fun i => V.ref (as.getD i 0)) (p.toList.map fun i => (as.map Value.ref).getD i Value.none) := vals_got hin
    have hsz : (p.toList.map fun i => V.ref (as.getD i 0)).length ≤ sizeLine := by
      rw [List.length_map, Array.length_toList, hp.size, sizeLine_eq]
      (first | with_reducible assumption | lia | omega)
    refine ⟨.ref (s.heap.objs.size + 1), _, I.laid (t' := s.toks) (fun b o z => sortedAll_old z) (Nat.le_succ _) (show ObjOk X.prog X.w _ _ _ (.lst (p.toList.map fun i => V.ref (as.getD i 0))) from ⟨hsz, _, e, rv, he⟩), rfl, q _ p.toList (I.hok.fresh (Nat.le_succ _)) hp.perm ?_⟩
    rw [List.pairwise_iff_getElem]
    intro i j hi hj hij
    rw [List.length_map, Array.length_toList, hp.size] at hi hj
    have := Inc.lt' (R.ord) hI hij hj
    have g : ∀ k (hk : k < as.length), gt_ p k = p[k]'(by rw [hp.size]; exact hk) := fun k hk => by
      rw [gt_at, Array.getElem?_eq_getElem (by rw [hp.size]; exact hk)]
      rfl
    rw [g i hi, g j hj] at this
    simpa [rowLt] using this
end
end L2

namespace Vt
open PySem L2
theorem kit_int_int (K : PySem.W.Frag) : PySem.W.kitOne K (.type "int") (.type "int") = some true := by kernel_rfl
theorem kit_int_bool (K : PySem.W.Frag) : PySem.W.kitOne K (.type "int") (.type "bool") = some false := by kernel_rfl
theorem kit_list_list (K : PySem.W.Frag) : PySem.W.kitOne K (.type "list") (.type "list") = some true := by kernel_rfl
theorem len1 {us : List Value} (h : us.length = 1) : ∃ a, us = [a] := List.length_eq_one_iff.mp h
theorem len2 {us : List Value} (h : us.length = 2) : ∃ a b, us = [a, b] := by
  obtain ⟨a, r, rfl⟩ := List.exists_cons_of_length_eq_add_one h
  obtain ⟨b, rfl⟩ := len1 (us := r) (Nat.succ.inj h)
  exact ⟨a, b, rfl⟩
theorem len3 {us : List Value} (h : us.length = 3) : ∃ a b c, us = [a, b, c] := by
  obtain ⟨a, r, rfl⟩ := List.exists_cons_of_length_eq_add_one h
  obtain ⟨b, c, rfl⟩ := len2 (us := r) (Nat.succ.inj h)
  exact ⟨a, b, c, rfl⟩
theorem len4 {us : List Value} (h : us.length = 4) : ∃ a b c d, us = [a, b, c, d] := by
  obtain ⟨a, r, rfl⟩ := List.exists_cons_of_length_eq_add_one h
  obtain ⟨b, c, d, rfl⟩ := len3 (us := r) (Nat.succ.inj h)
  exact ⟨a, b, c, d, rfl⟩
theorem len5 {us : List Value} (h : us.length = 5) : ∃ a b c d e, us = [a, b, c, d, e] := by
  obtain ⟨a, r, rfl⟩ := List.exists_cons_of_length_eq_add_one h
  obtain ⟨b, c, d, e, rfl⟩ := len4 (us := r) (Nat.succ.inj h)
  exact ⟨a, b, c, d, e, rfl⟩
noncomputable def top (i : Nat) : Stmt := PySem.Challenge.pw_valleytree_k10_all_orders_of_small_trees.main.body.getD i (.Pass ⟨0, 0, 0, 0⟩)
noncomputable abbrev s_check_size : Stmt := top 10
noncomputable abbrev s_check_stretch : Stmt := top 11
noncomputable abbrev s_Row_init : Stmt := inClass (top 12) 0
noncomputable abbrev s_Row_numbers : Stmt := inClass (top 12) 1
noncomputable abbrev s_least : Stmt := top 14
noncomputable abbrev s_tree_over : Stmt := top 16
noncomputable abbrev s_tree_of : Stmt := top 17
noncomputable abbrev s_head_under : Stmt := top 18
noncomputable abbrev s_is_part : Stmt := top 19
noncomputable abbrev s_is_tree : Stmt := top 20
noncomputable abbrev s_check_tree : Stmt := top 21
noncomputable abbrev s_check_number : Stmt := top 22
noncomputable abbrev s_ways_to_take : Stmt := top 24
noncomputable abbrev s_many_in_part : Stmt := top 25
noncomputable abbrev s_many_orders : Stmt := top 26
noncomputable abbrev s_parting_at : Stmt := top 27
noncomputable abbrev s_parting_number : Stmt := top 28
noncomputable abbrev s_order_in_part : Stmt := top 29
noncomputable abbrev s_order_at : Stmt := top 30
noncomputable abbrev s_check_order : Stmt := top 31
noncomputable abbrev s_number_in_part : Stmt := top 32
noncomputable abbrev s_order_number : Stmt := top 33
noncomputable abbrev s_law_cell_at : Stmt := top 35
noncomputable abbrev s_law_whole : Stmt := top 36
noncomputable abbrev s_law_draw : Stmt := top 37
noncomputable abbrev s_law_row : Stmt := top 38
noncomputable abbrev s_law_numbers : Stmt := top 39
noncomputable abbrev s_law_tree : Stmt := top 40
noncomputable abbrev s_law_orders : Stmt := top 41
noncomputable abbrev s_law : Stmt := top 42
theorem sc_check_size : FnScope ["size"] ["size"] (defScope s_check_size) := ⟨rfl, rfl, rfl, by decide +kernel, rfl, by decide +kernel, by decide +kernel⟩
theorem sc_check_stretch : FnScope ["size", "first", "behind"] ["size", "first", "behind"] (defScope s_check_stretch) := ⟨rfl, rfl, rfl, by decide +kernel, rfl, by decide +kernel, by decide +kernel⟩
theorem sc_Row_init : FnScope ["self", "numbers"] ["self", "numbers"] (defScope s_Row_init) := ⟨rfl, rfl, rfl, by decide +kernel, rfl, by decide +kernel, by decide +kernel⟩
theorem sc_Row_numbers : FnScope ["self"] ["self"] (defScope s_Row_numbers) := ⟨rfl, rfl, rfl, by decide +kernel, rfl, by decide +kernel, by decide +kernel⟩
theorem sc_least : FnScope ["row", "first", "behind", "numbers", "part", "lowest"] ["row", "first", "behind"] (defScope s_least) := ⟨rfl, rfl, rfl, by decide +kernel, rfl, by decide +kernel, by decide +kernel⟩
theorem sc_tree_over : FnScope ["row", "first", "behind", "over", "head"] ["row", "first", "behind", "over"] (defScope s_tree_over) := ⟨rfl, rfl, rfl, by decide +kernel, rfl, by decide +kernel, by decide +kernel⟩
theorem sc_tree_of : FnScope ["row"] ["row"] (defScope s_tree_of) := ⟨rfl, rfl, rfl, by decide +kernel, rfl, by decide +kernel, by decide +kernel⟩
theorem sc_head_under : FnScope ["tree", "first", "behind", "over"] ["tree", "first", "behind", "over"] (defScope s_head_under) := ⟨rfl, rfl, rfl, by decide +kernel, rfl, by decide +kernel, by decide +kernel⟩
theorem sc_is_part : FnScope ["some", "first", "behind", "over", "head"] ["some", "first", "behind", "over"] (defScope s_is_part) := ⟨rfl, rfl, rfl, by decide +kernel, rfl, by decide +kernel, by decide +kernel⟩
theorem sc_is_tree : FnScope ["some"] ["some"] (defScope s_is_tree) := ⟨rfl, rfl, rfl, by decide +kernel, rfl, by decide +kernel, by decide +kernel⟩
theorem sc_check_tree : FnScope ["some"] ["some"] (defScope s_check_tree) := ⟨rfl, rfl, rfl, by decide +kernel, rfl, by decide +kernel, by decide +kernel⟩
theorem sc_check_number : FnScope ["many", "number"] ["many", "number"] (defScope s_check_number) := ⟨rfl, rfl, rfl, by decide +kernel, rfl, by decide +kernel, by decide +kernel⟩
theorem sc_ways_to_take : FnScope ["many", "taken", "ways", "step"] ["many", "taken"] (defScope s_ways_to_take) := ⟨rfl, rfl, rfl, by decide +kernel, rfl, by decide +kernel, by decide +kernel⟩
theorem sc_many_in_part : FnScope ["tree", "first", "behind", "over", "head", "ahead", "rest"] ["tree", "first", "behind", "over"] (defScope s_many_in_part) := ⟨rfl, rfl, rfl, by decide +kernel, rfl, by decide +kernel, by decide +kernel⟩
theorem sc_many_orders : FnScope ["tree"] ["tree"] (defScope s_many_orders) := ⟨rfl, rfl, rfl, by decide +kernel, rfl, by decide +kernel, by decide +kernel⟩
theorem sc_parting_at : FnScope ["entries", "taken", "number", "ahead", "rest", "place", "entry", "ways"] ["entries", "taken", "number"] (defScope s_parting_at) := ⟨rfl, rfl, rfl, by decide +kernel, rfl, by decide +kernel, by decide +kernel⟩
theorem sc_parting_number : FnScope ["ahead", "rest", "entries", "wanted", "number", "place", "entry"] ["ahead", "rest"] (defScope s_parting_number) := ⟨rfl, rfl, rfl, by decide +kernel, rfl, by decide +kernel, by decide +kernel⟩
theorem sc_order_in_part : FnScope ["tree", "first", "over", "entries", "number", "behind", "head", "many_ahead", "many_behind", "parts", "ahead", "rest"] ["tree", "first", "over", "entries", "number"] (defScope s_order_in_part) := ⟨rfl, rfl, rfl, by decide +kernel, rfl, by decide +kernel, by decide +kernel⟩
theorem sc_order_at : FnScope ["tree", "number"] ["tree", "number"] (defScope s_order_at) := ⟨rfl, rfl, rfl, by decide +kernel, rfl, by decide +kernel, by decide +kernel⟩
theorem sc_check_order : FnScope ["tree", "order", "once"] ["tree", "order"] (defScope s_check_order) := ⟨rfl, rfl, rfl, by decide +kernel, rfl, by decide +kernel, by decide +kernel⟩
theorem sc_number_in_part : FnScope ["tree", "order", "first", "behind", "over", "head", "many_ahead", "many_behind", "parting", "ahead", "rest"] ["tree", "order", "first", "behind", "over"] (defScope s_number_in_part) := ⟨rfl, rfl, rfl, by decide +kernel, rfl, by decide +kernel, by decide +kernel⟩
theorem sc_order_number : FnScope ["tree", "order"] ["tree", "order"] (defScope s_order_number) := ⟨rfl, rfl, rfl, by decide +kernel, rfl, by decide +kernel, by decide +kernel⟩
theorem sc_law_cell_at : FnScope ["script", "k"] ["script", "k"] (defScope s_law_cell_at) := ⟨rfl, rfl, rfl, by decide +kernel, rfl, by decide +kernel, by decide +kernel⟩
theorem sc_law_whole : FnScope ["found"] ["found"] (defScope s_law_whole) := ⟨rfl, rfl, rfl, by decide +kernel, rfl, by decide +kernel, by decide +kernel⟩
theorem sc_law_draw : FnScope ["cell", "k", "bound", "one", "two"] ["cell", "k", "bound"] (defScope s_law_draw) := ⟨rfl, rfl, rfl, by decide +kernel, rfl, by decide +kernel, by decide +kernel⟩
theorem sc_law_row : FnScope ["script", "at", "most", "size", "kind", "found", "k", "cell"] ["script", "at", "most"] (defScope s_law_row) := ⟨rfl, rfl, rfl, by decide +kernel, rfl, by decide +kernel, by decide +kernel⟩
theorem sc_law_numbers : FnScope ["found", "due", "x"] ["found", "due"] (defScope s_law_numbers) := ⟨rfl, rfl, rfl, by decide +kernel, rfl, by decide +kernel, by decide +kernel⟩
theorem sc_law_tree : FnScope ["numbers", "found", "todo", "first", "behind", "top", "head", "place"] ["numbers"] (defScope s_law_tree) := ⟨rfl, rfl, rfl, by decide +kernel, rfl, by decide +kernel, by decide +kernel⟩
theorem sc_law_orders : FnScope ["size", "found", "k", "longer", "row", "at"] ["size"] (defScope s_law_orders) := ⟨rfl, rfl, rfl, by decide +kernel, rfl, by decide +kernel, by decide +kernel⟩
theorem sc_law : FnScope ["script", "kept", "tree", "due", "many", "found", "n", "row", "told"] ["script"] (defScope s_law) := ⟨rfl, rfl, rfl, by decide +kernel, rfl, by decide +kernel, by decide +kernel⟩
structure Txt (K : PySem.W.Frag) (mg : Str → Option Value) (C : Addr) : Prop where
  cl : Cls K C
  n_held : NoAttr K C "held"
  g_MOST_NUMBERS : ∃ t, mg "MOST_NUMBERS" = some (.int 40 t)
  z_min : mg "min" = none
  z_range : mg "range" = none
  z_enumerate : mg "enumerate" = none
  z_sorted : mg "sorted" = none
  z_len : mg "len" = none
  z_list : mg "list" = none
  z_isinstance : mg "isinstance" = none
  z_int : mg "int" = none
  z_bool : mg "bool" = none
  e_NoOrder : ExcOf K mg "NoOrder"
noncomputable def flds (d : Addr) : List (Str × V) := putF "held" (.ref d) []
theorem flds_held (d : Addr) : (flds d).lookup ("held" : Str) = some (.ref d) := by
  unfold flds
  rw [lookup_putF, if_pos rfl]
theorem flds_no (d : Addr) {m : Str} (h : ¬ m = "held") : (flds d).lookup m = none := by
  unfold flds
  rw [lookup_putF, if_neg h]
  rfl
structure RowAt (C : Addr) (H : Hp) (p d : Addr) (ns : List Int) : Prop where
  ob : ∃ dx, H p = some (.ins C dx (flds d))
  hd : H d = some (.lst (ns.map V.int))
  sm : ns.length ≤ 40
section
variable {C p d : Addr} {H H' : Hp} {ns ms : List Int}
theorem RowAt.same (R : RowAt C H p d ns) (s : Same H H') : RowAt C H' p d ns := ⟨let ⟨dx, e⟩ := R.ob; ⟨dx, s _ _ e⟩, s _ _ R.hd, R.sm⟩
end
inductive Isp_check_size (K : PySem.W.Frag) (C : Addr) (vs : List V) (H : Hp) (Q : VK) : Prop where
  | mk (n : Int) (h0 : vs = [.int n]) (h1 : n ≤ 40) (h2 : Q .non H) : Isp_check_size K C vs H Q
noncomputable def sp_check_size (K : PySem.W.Frag) (C : Addr) : Sp := fun vs H Q _ => Isp_check_size K C vs H Q
inductive Isp_check_stretch (K : PySem.W.Frag) (C : Addr) (vs : List V) (H : Hp) (Q : VK) : Prop where
  | mk (n k b : Int) (h0 : vs = [.int n, .int k, .int b]) (h1 : 0 ≤ k) (h2 : k < b) (h3 : b ≤ n) (h4 : Q .non H) : Isp_check_stretch K C vs H Q
noncomputable def sp_check_stretch (K : PySem.W.Frag) (C : Addr) : Sp := fun vs H Q _ => Isp_check_stretch K C vs H Q
inductive Isp_Row_init (K : PySem.W.Frag) (C : Addr) (vs : List V) (H : Hp) (Q : VK) : Prop where
  | mk (p dx a : Addr) (ns : List Int) (h0 : vs = [.ref p, .ref a]) (h1 : H p = some (.ins C dx [])) (h2 : SqL K H a (ns.map V.int)) (h3 : ns.length ≤ 40) (h4 : ∀ d, H d = none → Q .non (upd (upd H d (.lst (ns.map V.int))) p (.ins C dx (flds d)))) : Isp_Row_init K C vs H Q
noncomputable def sp_Row_init (K : PySem.W.Frag) (C : Addr) : Sp := fun vs H Q _ => Isp_Row_init K C vs H Q
inductive Isp_Row_numbers (K : PySem.W.Frag) (C : Addr) (vs : List V) (H : Hp) (Q : VK) : Prop where
  | mk (p d : Addr) (ns : List Int) (h0 : vs = [.ref p]) (h1 : RowAt C H p d ns) (h2 : ∀ l, H l = none → Q (.ref l) (upd H l (.lst (ns.map V.int)))) : Isp_Row_numbers K C vs H Q
noncomputable def sp_Row_numbers (K : PySem.W.Frag) (C : Addr) : Sp := fun vs H Q _ => Isp_Row_numbers K C vs H Q
section
variable {P : Program} {w : World} {K : PySem.W.Frag} {mg : Str → Option Value} {base : Heap}
theorem d_check_size {f C : Addr} {fd : FuncData} (F : Fun K "check_size" "check_size" s_check_size f fd) (T : Txt K mg C)  : FnOk P w K mg base CX0 1 f fd ["size"] (sp_check_size K C) := by
  refine F.ok sc_check_size (fun vs H Q E h => ?_) (fun cdv A outer s H vs Q E hr h => ?_)
  · obtain ⟨n, rfl, _⟩ := h
    rfl
  · obtain ⟨n, rfl, h1, q⟩ := h
    refine ⟨_, (pss_one (ps_if (pt_cmpR op_gt (pv 0) (pe_glob (v := .int 40) rfl T.g_MOST_NUMBERS.choose_spec ⟨_, rfl⟩) (nomark _)) pss_never pss_nil)), ?_⟩
    refine ⟨_, rfl, _, _, rfl, rfl, _, rfl, ?_⟩
    exact ite2 (fun c => absurd (of_decide_eq_true c) (by (first | with_reducible assumption | lia | omega))) (fun _ => q)
theorem d_check_stretch {f C : Addr} {fd : FuncData} (F : Fun K "check_stretch" "check_stretch" s_check_stretch f fd) (T : Txt K mg C)  : FnOk P w K mg base CX0 1 f fd ["size", "first", "behind"] (sp_check_stretch K C) := by
  refine F.ok sc_check_stretch (fun vs H Q E h => ?_) (fun cdv A outer s H vs Q E hr h => ?_)
  · obtain ⟨n, k, b, rfl, _⟩ := h
    rfl
  · obtain ⟨n, k, b, rfl, h0, h1, h2, q⟩ := h
    refine ⟨_, (pss_one (ps_if (pt_not (pt_chain3 op_le op_lt op_le pe_int (pv 1) (pv 2) (pv 0))) pss_never pss_nil)), ?_⟩
    exact ⟨_, rfl, _, _, rfl, rfl, _, rfl, ite2 (fun _ => ⟨_, rfl, _, _, rfl, rfl, _, rfl, ite2 (fun _ => ⟨_, rfl, _, _, rfl, rfl, _, rfl, iteNS h2 q⟩) (fun c => absurd (decide_eq_true h1) c)⟩) (fun c => absurd (decide_eq_true h0) c)⟩
theorem d_Row_init {f C : Addr} {fd : FuncData} (F : Fun K "__init__" "Row.__init__" s_Row_init f fd) (T : Txt K mg C) (D_check_size : Def P w K mg base 1 "check_size" ["size"] (sp_check_size K C)) : FnOk P w K mg base CX0 2 f fd ["self", "numbers"] (sp_Row_init K C) := by
  refine F.ok sc_Row_init (fun vs H Q E h => ?_) (fun cdv A outer s H vs Q E hr h => ?_)
  · obtain ⟨p, dx, a, ns, rfl, _⟩ := h
    rfl
  · obtain ⟨p, dx, a, ns, rfl, hp, hS, hl, q⟩ := h
    refine ⟨_, (pss_cons (ps_expr (pe_def D_check_size (hr.mono (by decide)) (pa_cons (pe_callB call_len_seq rfl T.z_len PySem.boot_len (pa_cons (pv 1) pa_nil)) pa_nil)))
      (pss_one (ps_fld (pv 0) (pe_callTy call_list_of rfl T.z_list PyProof.Rows.boot_list (pa_cons (pv 1) pa_nil)) rfl))), ?_⟩
    refine ⟨_, rfl, a, _, rfl, .inl hS, _, rfl, (by rw [List.length_map]; (first | with_reducible assumption | lia | omega)), ?_⟩
    refine ⟨_, rfl, a, _, rfl, .inl hS, fun d hd => ?_⟩
    exact ⟨_, rfl, p, C, dx, _, rfl, (by rw [upd_ne (ne_of_none hp hd)]; exact hp), T.cl, T.n_held, (by show 0 < 1000; decide), q d hd⟩
theorem make_row {C a : Addr} {H : Hp} {Q : VK} {ns : List Int} (hS : SqL K H a (ns.map V.int)) (hl : ns.length ≤ 40)
    (q : ∀ x d H', H x = none → H d = none → Same H H' → RowAt C H' x d ns → Q (.ref x) H') :
    ∀ x dx, H x = none → H dx = none → dx ≠ x → sp_Row_init K C [.ref x, .ref a] (upd (upd H dx (.own x)) x (.ins C dx [])) (fun v H2 => v = .non ∧ Q (.ref x) H2) E0 := by
  intro x dx hx hdx hne
  have s0 : Same H (upd (upd H dx (.own x)) x (.ins C dx [])) := fun b o e => by
    rw [upd_ne (ne_of_none e hx), upd_ne (ne_of_none e hdx)]
    exact e
  refine ⟨x, dx, a, ns, rfl, upd_same, s0.seq hS, hl, fun d hd => ⟨rfl, ?_⟩⟩
  have hd0 : H d = none := s0.free hd
  have hxd : x ≠ d := ne_of_none upd_same hd
  refine q x d _ hx hd0 (fun b o e => ?_) ⟨⟨dx, upd_same⟩, ?_, hl⟩
  · rw [upd_ne (ne_of_none e hx), upd_ne (ne_of_none e hd0)]
    exact s0 b o e
  · rw [upd_ne hxd.symm, upd_same]
noncomputable def tNew (K : PySem.W.Frag) (C : Addr) (t : TA) : TE := fun σ H Q => t σ H fun vs H1 => ∃ (a : Addr) (ns : List Int), vs = [.ref a] ∧ SqL K H1 a (ns.map V.int) ∧ ns.length ≤ 40 ∧
  ∀ x d H', H1 x = none → H1 d = none → Same H1 H' → RowAt C H' x d ns → Q (.ref x) H'
theorem pe_Row {X : Cx} {k : Nat} {C : Addr} {ps : List Str} {e : Expr} {es : List Expr} {t : TA} {p pos : Pos} (D : DefC X.prog X.w X.K X.mg X.base k C "Row" ps (sp_Row_init X.K C)) (hr : Room (k + 1) X.A) (ha : PA X (e :: es) t)
    (hg : Gl X "Row" := by rfl) (hdb : (("Row" : Str) == ("__debug__" : Str)) = false := by decide)
    (he : starEach (e :: es) X.env = (false, eval e X.env) :: starEach es X.env := by rfl) (hpl : (backTo pos (starEach es X.env)).any (·.1) = false := by rfl) :
    PE X (.Call (.Name "Row" p) (e :: es) [] pos) (tNew X.K C t) := by
  obtain ⟨f, fd, F, M, hb, hm⟩ := D.ex
  intro pins s σ H Q I h
  refine wpAny_Call_Name_kw (ld_glob I hg hm ?_ hdb)
  refine PySem.W.callWith_K (h₀ := X.base) I.ok.mod.kin M.kp (thn (ha pos pins s σ H _ I h) fun us s1 hq_ => APe hq_ fun vs H1 I1 r q => ⟨I1.kIn, ?_⟩) he hpl
  obtain ⟨a, ns, rfl, hS, hl, q⟩ := q
  exact run_make M F hr hb .nil pass0 I1 r (make_row hS hl q)
theorem d_Row_numbers {f C : Addr} {fd : FuncData} (F : Fun K "numbers" "Row.numbers" s_Row_numbers f fd) (T : Txt K mg C)  : FnOk P w K mg base CX0 1 f fd ["self"] (sp_Row_numbers K C) := by
  refine F.ok sc_Row_numbers (fun vs H Q E h => ?_) (fun cdv A outer s H vs Q E hr h => ?_)
  · obtain ⟨p, d, ns, rfl, _⟩ := h
    rfl
  · obtain ⟨p, d, ns, rfl, R, q⟩ := h
    obtain ⟨dx, h1⟩ := R.ob
    refine ⟨_, (pss_one (ps_ret (pe_callTy call_list_of rfl T.z_list PyProof.Rows.boot_list (pa_cons (pe_fld (pv 0) rfl) pa_nil)))), ?_⟩
    exact ⟨_, rfl, p, C, dx, _, _, rfl, h1, T.cl, T.n_held, flds_held _, d, _, rfl, .inl (SqL.of R.hd), q⟩
inductive Isp_law_cell_at (K : PySem.W.Frag) (C : Addr) (vs : List V) (H : Hp) (Q : VK) : Prop where
  | mk (a : Addr) (ns : List Int) (k : Int) (h0 : vs = [.ref a, .int k]) (h1 : SqL K H a (ns.map V.int)) (h2 : 0 ≤ k) (h3 : Q (.int (ns.getD k.toNat 0)) H) : Isp_law_cell_at K C vs H Q
noncomputable def sp_law_cell_at (K : PySem.W.Frag) (C : Addr) : Sp := fun vs H Q _ => Isp_law_cell_at K C vs H Q
theorem d_law_cell_at {f C : Addr} {fd : FuncData} (F : Fun K "_law_cell_at" "_law_cell_at" s_law_cell_at f fd) (T : Txt K mg C)  : FnOk P w K mg base CX0 1 f fd ["script", "k"] (sp_law_cell_at K C) := by
  refine F.ok sc_law_cell_at (fun vs H Q E h => ?_) (fun cdv A outer s H vs Q E hr h => ?_)
  · obtain ⟨a, ns, k, rfl, _⟩ := h
    rfl
  · obtain ⟨a, ns, k, rfl, hS, h0, q⟩ := h
    refine ⟨_, (pss_cons (ps_if (pt_cmpR op_lt (pv 1) (pe_callB call_len_seq rfl T.z_len PySem.boot_len (pa_cons (pv 0) pa_nil)) (nomark _)) (pss_one (ps_ret (pe_ix ix_list (pv 0) (pv 1) (fun _ _ => rfl)))) pss_nil)
      (pss_one (ps_ret pe_int))), ?_⟩
    refine ⟨_, rfl, _, rfl, a, _, rfl, .inl hS, _, _, rfl, rfl, _, rfl, ?_⟩
    refine ite2 (fun c => ?_) (fun c => ?_)
    · have c' : k < (((ns.map V.int).length : Nat) : Int) := of_decide_eq_true c
      rw [List.length_map] at c'
      exact ⟨_, rfl, _, rfl, a, _, _, _, rfl, rfl, hS, atI_int h0 c', q⟩
    · have c' : ¬ k < (((ns.map V.int).length : Nat) : Int) := fun z => c (decide_eq_true z)
      rw [List.length_map] at c'
      have e : ns.getD k.toNat 0 = 0 := by
        rw [List.getD_eq_getElem?_getD, List.getElem?_eq_none (by (first | with_reducible assumption | lia | omega))]
        rfl
      rw [e] at q
      exact q
inductive Isp_law_whole (K : PySem.W.Frag) (C : Addr) (vs : List V) (H : Hp) (Q : VK) : Prop where
  | mk (z : Int) (h0 : vs = [.int z]) (h1 : Q (.bl true) H) : Isp_law_whole K C vs H Q
noncomputable def sp_law_whole (K : PySem.W.Frag) (C : Addr) : Sp := fun vs H Q _ => Isp_law_whole K C vs H Q
theorem d_law_whole {f C : Addr} {fd : FuncData} (F : Fun K "_law_whole" "_law_whole" s_law_whole f fd) (T : Txt K mg C)  : FnOk P w K mg base CX0 1 f fd ["found"] (sp_law_whole K C) := by
  refine F.ok sc_law_whole (fun vs H Q E h => ?_) (fun cdv A outer s H vs Q E hr h => ?_)
  · obtain ⟨z, rfl, _⟩ := h
    rfl
  · obtain ⟨z, rfl, q⟩ := h
    refine ⟨_, (pss_one (ps_ret (pe_and (pe_callB call_isi rfl T.z_isinstance PyProof.Rows.boot_isinstance (pa_cons (pv 0) (pa_cons (pe_bltn (v := .ty "int") rfl T.z_int PyProof.Rows.boot_int rfl) pa_nil))) (pe_one (pe_not (pe_callB call_isi rfl T.z_isinstance PyProof.Rows.boot_isinstance (pa_cons (pv 0) (pa_cons (pe_bltn (v := .ty "bool") rfl T.z_bool PyProof.Rows.boot_bool rfl) pa_nil)))))))), ?_⟩
    refine ⟨_, rfl, _, _, _, _, rfl, .int _, kit_int_int K, _, rfl, iteT ?_⟩
    exact ⟨_, rfl, _, _, _, _, rfl, .int _, kit_int_bool K, _, rfl, q⟩
inductive Isp_law_draw (K : PySem.W.Frag) (C : Addr) (vs : List V) (H : Hp) (Q : VK) : Prop where
  | mk (c k b : Int) (h0 : vs = [.int c, .int k, .int b]) (h1 : 0 ≤ k) (h2 : k ≤ 100) (h3 : 0 < b) (h4 : ∀ z, Q (.int z) H) : Isp_law_draw K C vs H Q
noncomputable def sp_law_draw (K : PySem.W.Frag) (C : Addr) : Sp := fun vs H Q _ => Isp_law_draw K C vs H Q
theorem d_law_draw {f C : Addr} {fd : FuncData} (F : Fun K "_law_draw" "_law_draw" s_law_draw f fd) (T : Txt K mg C)  : FnOk P w K mg base CX0 1 f fd ["cell", "k", "bound"] (sp_law_draw K C) := by
  refine F.ok sc_law_draw (fun vs H Q E h => ?_) (fun cdv A outer s H vs Q E hr h => ?_)
  · obtain ⟨c, k, b, rfl, _⟩ := h
    rfl
  · obtain ⟨c, k, b, rfl, h0, h1, hb, q⟩ := h
    refine ⟨_, (pss_cons (ps_set (i := 3) sc_law_draw.nd rfl (by first | exact Or.inl rfl | exact Or.inr rfl) (pe_op op_mod (pe_op op_add (pe_op op_add (pe_op op_mul (pe_op op_mod (pv 0) pe_int) pe_int) (pe_op op_mul (pv 1) pe_int)) pe_int) pe_int))
      (pss_cons (ps_set (i := 4) sc_law_draw.nd rfl (by first | exact Or.inl rfl | exact Or.inr rfl) (pe_op op_mod (pe_op op_mul (pe_op op_add (pe_op op_mod (pv 0) pe_int) pe_int) (pe_op op_add (pe_op op_add (pe_op op_mul (pv 1) (pv 1)) (pe_op op_mul pe_int (pv 1))) pe_int)) pe_int))
      (pss_one (ps_ret (pe_op op_mod (pe_op op_fdiv (pe_op op_mul (pv 3) (pe_op op_add (pv 4) pe_int)) pe_int) (pv 2)))))), ?_⟩
    refine ⟨_, rfl, _, _, rfl, rfl, (by show (0 : Int) < 1000003; decide), _, _, rfl, rfl, .inr ⟨by decide, by decide⟩, _, rfl, _, _, rfl, rfl, .inr ⟨by decide, by decide⟩, _, _, rfl, rfl, _, _, rfl, rfl, _, _, rfl, rfl, (by show (0 : Int) < 2147483647; decide), ?_⟩
    have hk1 : -(2 ^ 64 : Int) < k := by (first | with_reducible assumption | lia | omega)
    have hk2 : k < (2 ^ 64 : Int) := by (first | with_reducible assumption | lia | omega)
    have hc : 0 ≤ c % 7919 + 1 ∧ c % 7919 + 1 < 2 ^ 64 := by (first | with_reducible assumption | lia | omega)
    refine ⟨_, rfl, _, _, rfl, rfl, (by show (0 : Int) < 7919; decide), _, _, rfl, rfl, _, rfl, _, rfl, _, _, rfl, rfl, .inl ⟨hk1, hk2⟩, _, rfl, _, _, rfl, rfl, .inl ⟨by decide, by decide⟩, _, _, rfl, rfl, _, _, rfl, rfl, _, _, rfl, rfl, .inl ⟨by (first | with_reducible assumption | lia | omega), hc.2⟩, _, _, rfl, rfl, (by show (0 : Int) < 65537; decide), ?_⟩
    refine ⟨_, rfl, _, rfl, _, _, rfl, rfl, _, _, rfl, rfl, ?_, _, _, rfl, rfl, ⟨by decide, by decide⟩, _, rfl, _, _, rfl, rfl, hb, q _⟩
    refine .inl ⟨?_, ?_⟩
    · exact Int.lt_of_lt_of_le (by decide) (Int.emod_nonneg _ (by decide))
    · exact Int.lt_trans (Int.emod_lt_of_pos _ (by decide)) (by decide)
inductive Isp_law_row (K : PySem.W.Frag) (C : Addr) (vs : List V) (H : Hp) (Q : VK) : Prop where
  | mk (a : Addr) (ns : List Int) (at_ most : Int) (h0 : vs = [.ref a, .int at_, .int most]) (h1 : Scr K H a ns) (h2 : ns.length ≤ 63) (h3 : 0 ≤ at_) (h4 : at_ ≤ 100) (h5 : 0 ≤ most) (h6 : most ≤ 60) (h7 : ∀ (l : Addr) (H' : Hp) (ms : List Int), Same H H' → H l = none → H' l = some (.lst (ms.map V.int)) → (ms.length : Int) ≤ most → Q (.ref l) H') : Isp_law_row K C vs H Q
noncomputable def sp_law_row (K : PySem.W.Frag) (C : Addr) : Sp := fun vs H Q _ => Isp_law_row K C vs H Q
theorem d_law_row {f C : Addr} {fd : FuncData} (F : Fun K "_law_row" "_law_row" s_law_row f fd) (T : Txt K mg C) (D_law_cell_at : Def P w K mg base 1 "_law_cell_at" ["script", "k"] (sp_law_cell_at K C)) (D_law_draw : Def P w K mg base 1 "_law_draw" ["cell", "k", "bound"] (sp_law_draw K C)) : FnOk P w K mg base CX0 2 f fd ["script", "at", "most"] (sp_law_row K C) := by
  refine F.ok sc_law_row (fun vs H Q E h => ?_) (fun cdv A outer s H vs Q E hr h => ?_)
  · obtain ⟨a, ns, at_, most, rfl, _⟩ := h
    rfl
  · obtain ⟨a, ns, at_, most, rfl, hS, hlen, h0, h1, hm0, hm1, q⟩ := h
    refine ⟨_, (pss_cons (ps_set (i := 3) sc_law_row.nd rfl (by first | exact Or.inl rfl | exact Or.inr rfl) (pe_op op_mod (pe_def D_law_cell_at (hr.mono (by decide)) (pa_cons (pv 0) (pa_cons (pv 1) pa_nil))) (pe_op op_add (pv 2) pe_int)))
      (pss_cons (ps_set (i := 4) sc_law_row.nd rfl (by first | exact Or.inl rfl | exact Or.inr rfl) (pe_op op_mod (pe_op op_fdiv (pe_def D_law_cell_at (hr.mono (by decide)) (pa_cons (pv 0) (pa_cons (pv 1) pa_nil))) (pe_op op_add (pv 2) pe_int)) pe_int))
      (pss_cons (ps_set (i := 5) sc_law_row.nd rfl (by first | exact Or.inl rfl | exact Or.inr rfl) (pe_lst pa_nil))
      (pss_cons (ps_for PassesOwn.never rfl (pi_range1 rfl T.z_range (pa_cons (pv 3) pa_nil)) (pg_name (i := 6) sc_law_row.nd rfl (by first | exact Or.inl rfl | exact Or.inr rfl))
        (pss_cons (ps_set (i := 7) sc_law_row.nd rfl (by first | exact Or.inl rfl | exact Or.inr rfl) (pe_def D_law_cell_at (hr.mono (by decide)) (pa_cons (pv 0) (pa_cons (pe_op op_add (pe_op op_add (pv 1) pe_int) (pv 6)) pa_nil))))
      (pss_cons (ps_if (pt_cmpR op_ge (pe_op op_add (pe_op op_add (pv 1) pe_int) (pv 6)) (pe_callB call_len_seq rfl T.z_len PySem.boot_len (pa_cons (pv 0) pa_nil)) (nomark _)) (pss_one (ps_set (i := 7) sc_law_row.nd rfl (by first | exact Or.inl rfl | exact Or.inr rfl) (pe_def D_law_draw (hr.mono (by decide)) (pa_cons (pe_def D_law_cell_at (hr.mono (by decide)) (pa_cons (pv 0) (pa_cons (pv 1) pa_nil))) (pa_cons (pv 6) (pa_cons pe_int pa_nil)))))) pss_nil)
      (pss_one (ps_expr (pe_bm PySem.F.plainAttrs_list PySem.F.slot_list_append PySem.F.type_list_append mt_append (pv 5) (pa_cons (pe_ix ix_list (pe_lst (pa_cons (pe_op op_mod (pv 7) pe_int) (pa_cons (pe_op op_sub (pe_op op_mod (pv 7) pe_int) pe_int) (pa_cons (pe_op op_sub (pe_op op_mod (pv 7) (pe_op op_pow pe_int pe_int)) (pe_op op_pow pe_int pe_int)) (pa_cons (pe_op op_add (pv 6) (pe_op op_mod (pv 7) pe_int)) pa_nil))))) (pv 4) (fun _ _ => rfl)) pa_nil)))))))
      (pss_one (ps_ret (pv 5))))))), ?_⟩
    refine ⟨_, rfl, _, rfl, a, ns, at_, rfl, hS.sq, h0, _, rfl, _, _, rfl, rfl, _, _, rfl, rfl, (by show (0 : Int) < most + 1; (first | with_reducible assumption | lia | omega)), ?_⟩
    refine ⟨_, rfl, _, rfl, a, ns, at_, rfl, hS.sq, h0, _, rfl, _, _, rfl, rfl, _, _, rfl, rfl, ⟨by (first | with_reducible assumption | lia | omega), by (first | with_reducible assumption | lia | omega)⟩, _, _, rfl, rfl, (by show (0 : Int) < 4; decide), ?_⟩
    refine ⟨(by show 0 ≤ sizeLine; decide), fun l hl => ?_⟩
    have hsz0 : 0 ≤ ns.getD at_.toNat 0 % (most + 1) := Int.emod_nonneg _ (by (first | with_reducible assumption | lia | omega))
    have hsz1 : ns.getD at_.toNat 0 % (most + 1) < most + 1 := Int.emod_lt_of_pos _ (by (first | with_reducible assumption | lia | omega))
    have hkd0 : 0 ≤ ns.getD at_.toNat 0 / (most + 1) % 4 := Int.emod_nonneg _ (by decide)
    have hkd1 : ns.getD at_.toNat 0 / (most + 1) % 4 < 4 := Int.emod_lt_of_pos _ (by decide)
    try dsimp only [gName]
    generalize ns.getD at_.toNat 0 % (most + 1) = size at hsz0 hsz1 ⊢
    generalize ns.getD at_.toNat 0 / (most + 1) % 4 = kind at hkd0 hkd1 ⊢
    have s1 : Same H (upd H l (.lst [])) := same_new hl _
    refine ⟨_, rfl, size, rfl, (by (first | with_reducible assumption | lia | omega)), (by (first | with_reducible assumption | lia | omega)), for_range (lo := 0) (n := size.toNat)
      (fun i σ H2 => ∃ (v c : Option V) (ms : List Int), σ = [some (.ref a), some (.int at_), some (.int most), some (.int size), some (.int kind), some (.ref l), v, c] ∧ Same H H2 ∧ H2 l = some (.lst (ms.map V.int)) ∧ ms.length = i)
      ⟨none, none, [], rfl, s1, upd_same, rfl⟩ ?_ ?_⟩
    · rintro i σ H2 hi ⟨v, c, ms, rfl, s2, e2, hms⟩
      have hS2 := hS.same s2
      have e0 : (0 : Int) + (i : Int) = i := by (first | with_reducible assumption | lia | omega)
      rw [e0]
      refine ⟨_, rfl, _, rfl, _, _, rfl, rfl, _, rfl, _, _, rfl, rfl, a, ns, _, rfl, hS2.sq, (by (first | with_reducible assumption | lia | omega)), ?_⟩
      generalize ns.getD (at_ + 1 + (i : Int)).toNat 0 = cell
      refine ⟨_, rfl, _, _, rfl, rfl, _, rfl, _, _, rfl, rfl, _, rfl, a, _, rfl, .inl hS2.sq, _, _, rfl, rfl, _, rfl, ?_⟩
      have fin : ∀ (cell : Int) (p : Addr) (x : Int), H2 p = none → ∃ (v c : Option V) (ms' : List Int), ([some (.ref a), some (.int at_), some (.int most), some (.int size), some (.int kind), some (.ref l), some (.int (i : Int)), some (.int cell)] : St) = [some (.ref a), some (.int at_), some (.int most), some (.int size), some (.int kind), some (.ref l), v, c] ∧
          Same H (upd (upd H2 p (.lst [.int (cell % 4), .int (cell % 21 - 10), .int (cell % 10 ^ 50 - 10 ^ 49), .int ((i : Int) + cell % 3)])) l (.lst (ms.map V.int ++ [.int x]))) ∧
          (upd (upd H2 p (.lst [.int (cell % 4), .int (cell % 21 - 10), .int (cell % 10 ^ 50 - 10 ^ 49), .int ((i : Int) + cell % 3)])) l (.lst (ms.map V.int ++ [.int x]))) l = some (.lst (ms'.map V.int)) ∧ ms'.length = i + 1 := fun cell p x hp => by
        refine ⟨_, _, ms ++ [x], rfl, fun b o e => ?_, ?_, by rw [List.length_append, hms]; rfl⟩
        · rw [upd_ne (ne_of_none e hl), upd_ne (ne_of_none (s2 _ _ e) hp)]
          exact s2 _ _ e
        · rw [upd_same, List.map_append]
          rfl
      have last : ∀ (cell : Int) (p : Addr), H2 p = none → ∃ x, atI ([.int (cell % 4), .int (cell % 21 - 10), .int (cell % 10 ^ 50 - 10 ^ 49), .int ((i : Int) + cell % 3)] : List V) kind = some (.int x) := fun cell p hp => by
        rcases (show kind = 0 ∨ kind = 1 ∨ kind = 2 ∨ kind = 3 by (first | with_reducible assumption | lia | omega)) with e | e | e | e <;> subst e <;> exact ⟨_, rfl⟩
      refine ite2 (fun _ => ?_) (fun _ => ?_)
      · refine ⟨_, rfl, _, rfl, a, ns, at_, rfl, hS2.sq, h0, _, rfl, _, _, _, rfl, (by (first | with_reducible assumption | lia | omega)), (by (first | with_reducible assumption | lia | omega)), (by decide), fun z => ?_⟩
        refine ⟨_, rfl, .inl ⟨rfl, _, SqL.of e2⟩, _, rfl, _, _, rfl, rfl, (by show (0 : Int) < 4; decide), _, rfl, _, _, rfl, rfl, (by show (0 : Int) < 21; decide), _, _, rfl, rfl, _, rfl, _, _, rfl, rfl, ⟨by decide, by decide, by decide⟩, _, _, rfl, rfl, (by show (0 : Int) < 10 ^ 50; decide), _, _, rfl, rfl, ⟨by decide, by decide, by decide⟩, _, _, rfl, rfl, _, rfl, _, rfl, _, _, rfl, rfl, (by show (0 : Int) < 3; decide), _, _, rfl, rfl, (by show 4 ≤ sizeLine; decide), fun p hp => ?_⟩
        obtain ⟨x, hx⟩ := last z p hp
        refine ⟨_, rfl, p, _, _, _, rfl, rfl, SqL.of upd_same, hx, l, _, _, rfl, rfl, (by rw [upd_ne (ne_of_none e2 hp)]; exact e2), (by rw [List.length_map]; exact small1000 (by (first | with_reducible assumption | lia | omega))), ?_⟩
        exact fin z p x hp
      · refine ⟨_, rfl, .inl ⟨rfl, _, SqL.of e2⟩, _, rfl, _, _, rfl, rfl, (by show (0 : Int) < 4; decide), _, rfl, _, _, rfl, rfl, (by show (0 : Int) < 21; decide), _, _, rfl, rfl, _, rfl, _, _, rfl, rfl, ⟨by decide, by decide, by decide⟩, _, _, rfl, rfl, (by show (0 : Int) < 10 ^ 50; decide), _, _, rfl, rfl, ⟨by decide, by decide, by decide⟩, _, _, rfl, rfl, _, rfl, _, rfl, _, _, rfl, rfl, (by show (0 : Int) < 3; decide), _, _, rfl, rfl, (by show 4 ≤ sizeLine; decide), fun p hp => ?_⟩
        obtain ⟨x, hx⟩ := last cell p hp
        refine ⟨_, rfl, p, _, _, _, rfl, rfl, SqL.of upd_same, hx, l, _, _, rfl, rfl, (by rw [upd_ne (ne_of_none e2 hp)]; exact e2), (by rw [List.length_map]; exact small1000 (by (first | with_reducible assumption | lia | omega))), ?_⟩
        exact fin cell p x hp
    · rintro σ H2 ⟨v, c, ms, rfl, s2, e2, hms⟩
      exact ⟨_, rfl, q l H2 ms s2 hl e2 (by (first | with_reducible assumption | lia | omega))⟩
structure Least (ns : List Int) (f b : Nat) (m : Int) (i : Nat) : Prop where
  lo : f ≤ i
  hi : i < b
  at_ : ns.getD i 0 = m
  le : ∀ j, f ≤ j → j < b → m ≤ ns.getD j 0
  lt : ∀ j, f ≤ j → j < i → m < ns.getD j 0
theorem getD_part (ns : List Int) (f n j : Nat) (h : j < n) : ((ns.drop f).take n).getD j 0 = ns.getD (f + j) 0 := by
  simp only [List.getD_eq_getElem?_getD]
  rw [List.getElem?_take_of_lt h, List.getElem?_drop]
theorem least_of {ns : List Int} {f b : Nat} {m : Int} (hb : b ≤ ns.length) (hm : m ∈ (ns.drop f).take (b - f)) (hle : ∀ a ∈ (ns.drop f).take (b - f), m ≤ a) : Least ns f b m (f + ((ns.drop f).take (b - f)).idxOf m) := by
  have hl : ((ns.drop f).take (b - f)).length = b - f := by rw [List.length_take, List.length_drop]; (first | with_reducible assumption | lia | omega)
  have hj : ((ns.drop f).take (b - f)).idxOf m < ((ns.drop f).take (b - f)).length := List.idxOf_lt_length_iff.mpr hm
  have hg : ∀ j, f ≤ j → j < b → ((ns.drop f).take (b - f)).getD (j - f) 0 = ns.getD j 0 := fun j h1 h2 => by
    rw [getD_part ns f (b - f) (j - f) (by (first | with_reducible assumption | lia | omega))]
    congr 1
    (first | with_reducible assumption | lia | omega)
  refine ⟨by (first | with_reducible assumption | lia | omega), by (first | with_reducible assumption | lia | omega), ?_, fun j h1 h2 => ?_, fun j h1 h2 => ?_⟩
  · rw [← getD_part ns f (b - f) _ (by (first | with_reducible assumption | lia | omega)), List.getD_eq_getElem?_getD, List.getElem?_eq_getElem hj]
    simp
  · rw [← hg j h1 h2]
    refine hle _ ?_
    rw [List.getD_eq_getElem?_getD, List.getElem?_eq_getElem (by (first | with_reducible assumption | lia | omega))]
    exact List.getElem_mem _
  · have h3 : j < b := by (first | with_reducible assumption | lia | omega)
    have h4 : j - f < ((ns.drop f).take (b - f)).idxOf m := by (first | with_reducible assumption | lia | omega)
    have h5 : ((ns.drop f).take (b - f)).getD (j - f) 0 ∈ (ns.drop f).take (b - f) := by
      rw [List.getD_eq_getElem?_getD, List.getElem?_eq_getElem (by (first | with_reducible assumption | lia | omega))]
      exact List.getElem_mem _
    have h6 := hle _ h5
    have h7 : ((ns.drop f).take (b - f)).getD (j - f) 0 ≠ m := fun e => by
      have h8 := PyProof.Rows.ne_of_lt_idxOf h4 (by (first | with_reducible assumption | lia | omega))
      rw [List.getD_eq_getElem?_getD, List.getElem?_eq_getElem (show j - f < ((ns.drop f).take (b - f)).length by (first | with_reducible assumption | lia | omega))] at e
      have e' : ((ns.drop f).take (b - f))[j - f] = m := e
      rw [e'] at h8
      simp at h8
    rw [hg j h1 h3] at h6 h7
    (first | with_reducible assumption | lia | omega)
inductive Isp_least (K : PySem.W.Frag) (C : Addr) (vs : List V) (H : Hp) (Q : VK) : Prop where
  | mk (p d : Addr) (ns : List Int) (k b : Int) (h0 : vs = [.ref p, .int k, .int b]) (h1 : RowAt C H p d ns) (h2 : 0 ≤ k) (h3 : k < b) (h4 : b ≤ (ns.length : Int)) (h5 : ∀ (t : Addr) (H' : Hp) (m : Int) (i : Nat), Same H H' → H' t = some (.tup [.int m, .int i]) → Least ns k.toNat b.toNat m i → Q (.ref t) H') : Isp_least K C vs H Q
noncomputable def sp_least (K : PySem.W.Frag) (C : Addr) : Sp := fun vs H Q _ => Isp_least K C vs H Q
theorem d_least {f C : Addr} {fd : FuncData} (F : Fun K "least" "least" s_least f fd) (T : Txt K mg C) (D_Row_numbers : DefM P w K mg base 1 C "numbers" ["self"] (sp_Row_numbers K C)) (D_check_stretch : Def P w K mg base 1 "check_stretch" ["size", "first", "behind"] (sp_check_stretch K C)) : FnOk P w K mg base CX0 2 f fd ["row", "first", "behind"] (sp_least K C) := by
  refine F.ok sc_least (fun vs H Q E h => ?_) (fun cdv A outer s H vs Q E hr h => ?_)
  · obtain ⟨p, d, ns, k, b, rfl, _⟩ := h
    rfl
  · obtain ⟨p, d, ns, k, b, rfl, R, h0, hk, hb, q⟩ := h
    obtain ⟨dx, o1⟩ := R.ob
    refine ⟨_, (pss_cons (ps_set (i := 3) sc_least.nd rfl (by first | exact Or.inl rfl | exact Or.inr rfl) (pe_defM0 D_Row_numbers T.cl (hr.mono (by decide)) (pv 0)))
      (pss_cons (ps_expr (pe_def D_check_stretch (hr.mono (by decide)) (pa_cons (pe_callB call_len_seq rfl T.z_len PySem.boot_len (pa_cons (pv 3) pa_nil)) (pa_cons (pv 1) (pa_cons (pv 2) pa_nil)))))
      (pss_cons (ps_set (i := 4) sc_least.nd rfl (by first | exact Or.inl rfl | exact Or.inr rfl) (pe_slice sl_list (pv 3) (po_some (pv 1)) (po_some (pv 2))))
      (pss_cons (ps_set (i := 5) sc_least.nd rfl (by first | exact Or.inl rfl | exact Or.inr rfl) (pe_callB (call_minL rfl) rfl T.z_min PyProof.Rows.boot_min (pa_cons (pv 4) pa_nil)))
      (pss_one (ps_ret (pe_tup (pa_cons (pv 5) (pa_cons (pe_op op_add (pv 1) (pe_bm PySem.F.plainAttrs_list PySem.F.slot_list_index PySem.F.type_list_index mt_index (pv 4) (pa_cons (pv 5) pa_nil))) pa_nil))))))))), ?_⟩
    refine ⟨_, rfl, p, dx, _, rfl, o1, flds_no _ (by decide +kernel), p, d, ns, rfl, R, fun a ha => ?_⟩
    have s1 := same_new ha (.lst (ns.map V.int))
    refine ⟨_, rfl, a, _, rfl, .inl (SqL.of upd_same), _, rfl, _, rfl, _, _, _, rfl, h0, hk, (by rw [List.length_map]; exact hb), ?_⟩
    refine ⟨_, rfl, _, rfl, _, rfl, _, rfl, _, rfl, a, _, rfl, SqL.of upd_same, fun a2 ha2 => ?_⟩
    rw [cut_both ns h0 (by (first | with_reducible assumption | lia | omega)) hb]
    have s2 := same_new ha2 (.lst (((ns.drop k.toNat).take (b.toNat - k.toNat)).map V.int))
    refine ⟨_, rfl, a2, _, rfl, SqL.of upd_same, (by rw [List.length_take, List.length_drop]; (first | with_reducible assumption | lia | omega)), fun m hm hle => ?_⟩
    refine ⟨_, rfl, _, rfl, _, rfl, .inl ⟨rfl, _, SqL.of upd_same⟩, _, rfl, a2, _, _, rfl, rfl, upd_same, hm, _, _, rfl, rfl, (by show 2 ≤ sizeLine; decide), fun t ht => ?_⟩
    have e : k + ((((ns.drop k.toNat).take (b.toNat - k.toNat)).idxOf m : Nat) : Int) = ((k.toNat + ((ns.drop k.toNat).take (b.toNat - k.toNat)).idxOf m : Nat) : Int) := by (first | with_reducible assumption | lia | omega)
    try dsimp only
    rw [e]
    exact q t _ m _ ((s1.trans s2).trans (same_new ht _)) upd_same (least_of (by (first | with_reducible assumption | lia | omega)) hm hle)
noncomputable def oV : Option Nat → V
  | none => .non
  | some n => .int (n : Int)
theorem oV_flat (x : Option Nat) : flatV (oV x) = true := by cases x <;> rfl
theorem oV_shape (x : Option Nat) : oV x = .non ∨ ∃ z, oV x = .int z := by
  cases x with
  | none => exact .inl rfl
  | some n => exact .inr ⟨_, rfl⟩
theorem oV_inj {x y : Option Nat} (h : oV x = oV y) : x = y := by
  cases x <;> cases y
  · rfl
  · cases h
  · cases h
  · have : ((_ : Nat) : Int) = ((_ : Nat) : Int) := V.int.inj h
    rw [Int.ofNat.inj this]
noncomputable abbrev gn (ns : List Int) : Nat → Int := fun j => ns.getD j 0
noncomputable def tl (ns : List Int) : List V := (Cart.trees (gn ns) 0 ns.length none).map oV
theorem tl_len (ns : List Int) : (tl ns).length = ns.length := by
  unfold tl
  rw [List.length_map, Cart.trees_len]
theorem tl_flat (ns : List Int) : (tl ns).all flatV = true := by
  unfold tl
  rw [List.all_map, List.all_eq_true]
  intro x _
  exact oV_flat x
theorem tl_shape (ns : List Int) : ∀ x ∈ tl ns, x = .non ∨ ∃ z, x = .int z := by
  intro x hx
  obtain ⟨y, _, rfl⟩ := List.mem_map.mp hx
  exact oV_shape y
theorem head_of_least {ns : List Int} {f b i : Nat} {m : Int} (h : Least ns f b m i) : Cart.Head (gn ns) f (b - f) i := by
  have h1 := h.lo
  have h2 := h.hi
  refine ⟨h.lo, by (first | with_reducible assumption | lia | omega), fun j z1 z2 => ?_, fun j z1 z2 => ?_⟩
  · have := h.lt j z1 z2
    rw [← h.at_] at this
    exact this
  · have := h.le j (by (first | with_reducible assumption | lia | omega)) (by (first | with_reducible assumption | lia | omega))
    rw [← h.at_] at this
    exact this
inductive IspN_tree_over (n : Nat) (K : PySem.W.Frag) (C : Addr) (vs : List V) (H : Hp) (Q : VK) : Prop where
  | mk (p d : Addr) (ns : List Int) (f b : Nat) (top : Option Nat) (h0 : vs = [.ref p, .int (f : Int), .int (b : Int), oV top]) (h1 : RowAt C H p d ns) (h2 : f ≤ b) (h3 : b ≤ ns.length) (h4 : b - f < n) (h5 : ∀ (l : Addr) (H' : Hp), Same H H' → H l = none → H' l = some (.lst ((Cart.trees (gn ns) f (b - f) top).map oV)) → Q (.ref l) H') : IspN_tree_over n K C vs H Q
noncomputable def spN_tree_over (n : Nat) (K : PySem.W.Frag) (C : Addr) : Sp := fun vs H Q _ => IspN_tree_over n K C vs H Q
theorem spN0_tree_over {K : PySem.W.Frag} {C : Addr} {vs : List V} {H : Hp} {Q : VK} {E : XK} : ¬ spN_tree_over 0 K C vs H Q E := by
  rintro ⟨_, _, _, _, _, _, _, _, _, _, h, _⟩
  exact Nat.not_lt_zero _ h
noncomputable def sp_tree_over (K : PySem.W.Frag) (C : Addr) : Sp := spN_tree_over 41 K C
theorem d_tree_over {f C : Addr} {fd : FuncData} (F : Fun K "tree_over" "tree_over" s_tree_over f fd) (T : Txt K mg C) (hmf : mg "tree_over" = some (.ref f)) (hkf : PySem.W.keepIn K (.ref f) = true) (hbf : Binds K fd ["row", "first", "behind", "over"] []) (D_least : Def P w K mg base 2 "least" ["row", "first", "behind"] (sp_least K C)) : FnOk P w K mg base CX0 (2 + 41) f fd ["row", "first", "behind", "over"] (sp_tree_over K C) := by
  refine rec_ok (x := "tree_over") (m := 2) (fun n => spN_tree_over n K C) (fun _ _ _ _ => spN0_tree_over) hmf hkf hbf (fun n D_tree_over => ?_) 41
  refine F.ok sc_tree_over (fun vs H Q E h => ?_) (fun cdv A outer s H vs Q E hr h => ?_)
  · obtain ⟨p, d, ns, f, b, top, rfl, _⟩ := h
    rfl
  · obtain ⟨p, d, ns, f, b, top, rfl, R, hfb, hb, hn, q⟩ := h
    have hs := R.sm
    refine ⟨_, (pss_cons (ps_if (pt_cmpR op_eq (pv 1) (pv 2) (nomark _)) (pss_one (ps_ret (pe_lst pa_nil))) pss_nil)
      (pss_cons (ps_set (i := 4) sc_tree_over.nd rfl (by first | exact Or.inl rfl | exact Or.inr rfl) (pe_ix ix_tup (pe_def D_least (hr.mono (by (first | with_reducible assumption | lia | omega))) (pa_cons (pv 0) (pa_cons (pv 1) (pa_cons (pv 2) pa_nil)))) pe_int (fun _ _ => rfl)))
      (pss_one (ps_ret (pe_op op_cat (pe_op op_cat (pe_def D_tree_over (hr.mono (by (first | with_reducible assumption | lia | omega))) (pa_cons (pv 0) (pa_cons (pv 1) (pa_cons (pv 4) (pa_cons (pv 4) pa_nil))))) (pe_lst (pa_cons (pv 3) pa_nil))) (pe_def D_tree_over (hr.mono (by (first | with_reducible assumption | lia | omega))) (pa_cons (pv 0) (pa_cons (pe_op op_add (pv 4) pe_int) (pa_cons (pv 2) (pa_cons (pv 4) pa_nil)))))))))), ?_⟩
    refine ⟨_, rfl, _, rfl, rfl, _, rfl, ite2 (fun c => ?_) (fun c => ?_)⟩
    · have e : b - f = 0 := by
        have := V.int.inj (of_decide_eq_true c)
        (first | with_reducible assumption | lia | omega)
      rw [e, Cart.trees_zero] at q
      exact ⟨(by show 0 ≤ sizeLine; decide), fun l hl => q l _ (same_new hl _) hl upd_same⟩
    · have hlt : f < b := by
        rcases Nat.lt_or_ge f b with z | z
        · exact z
        · exact absurd (decide_eq_true (show V.int (f : Int) = V.int (b : Int) by rw [show f = b by (first | with_reducible assumption | lia | omega)])) c
      refine ⟨_, rfl, _, rfl, _, rfl, p, d, ns, (f : Int), (b : Int), rfl, R, (by (first | with_reducible assumption | lia | omega)), (by (first | with_reducible assumption | lia | omega)), (by (first | with_reducible assumption | lia | omega)), fun t H1 m i s1 ht L => ?_⟩
      rw [Int.toNat_natCast, Int.toNat_natCast] at L
      have hH := head_of_least L
      have i1 := hH.lo
      have i2 := hH.hi
      refine ⟨t, _, 1, .int (i : Int), rfl, rfl, SqT.of ht, rfl, ?_⟩
      try dsimp only [gName, List.set]
      have R1 := R.same s1
      refine ⟨_, rfl, _, rfl, _, rfl, _, rfl, p, d, ns, f, i, some i, rfl, R1, i1, (by (first | with_reducible assumption | lia | omega)), (by (first | with_reducible assumption | lia | omega)), fun l1 H2 s2 hl1 e1 => ?_⟩
      refine ⟨_, rfl, (by show 1 ≤ sizeLine; decide), fun l2 hl2 => ?_⟩
      have s3 := same_new hl2 (.lst [oV top])
      refine ⟨l1, l2, _, _, rfl, rfl, s3 _ _ e1, upd_same, small (by rw [List.length_map, Cart.trees_len]; show i - f + 1 ≤ 1000; (first | with_reducible assumption | lia | omega)), fun l3 hl3 => ?_⟩
      have s4 := same_new hl3 (.lst ((Cart.trees (gn ns) f (i - f) (some i)).map oV ++ [oV top]))
      have s14 := s2.trans (s3.trans s4)
      have e3 : (upd (upd H2 l2 (.lst [oV top])) l3 (.lst ((Cart.trees (gn ns) f (i - f) (some i)).map oV ++ [oV top]))) l3 = _ := upd_same
      generalize upd (upd H2 l2 (.lst [oV top])) l3 (.lst ((Cart.trees (gn ns) f (i - f) (some i)).map oV ++ [oV top])) = H4 at s4 s14 e3 ⊢
      refine ⟨_, rfl, _, rfl, _, _, rfl, rfl, _, rfl, _, rfl, p, d, ns, i + 1, b, some i, rfl, R1.same s14, (by (first | with_reducible assumption | lia | omega)), hb, (by (first | with_reducible assumption | lia | omega)), fun l4 H5 s5 hl4 e4 => ?_⟩
      refine ⟨l3, l4, _, _, rfl, rfl, s5 _ _ e3, e4, small (by rw [List.length_append, List.length_map, List.length_map, Cart.trees_len, Cart.trees_len]; show i - f + 1 + _ ≤ 1000; (first | with_reducible assumption | lia | omega)), fun l5 hl5 => ?_⟩
      refine q l5 _ (s1.trans (s14.trans (s5.trans (same_new hl5 _)))) (s1.free (s14.free (s5.free hl5))) ?_
      rw [upd_same, Cart.trees_node top hH, List.map_append, List.map_cons, List.append_assoc]
      have e : f + (b - f) - (i + 1) = b - (i + 1) := by (first | with_reducible assumption | lia | omega)
      rw [e]
      rfl
inductive Isp_tree_of (K : PySem.W.Frag) (C : Addr) (vs : List V) (H : Hp) (Q : VK) : Prop where
  | mk (p d : Addr) (ns : List Int) (h0 : vs = [.ref p]) (h1 : RowAt C H p d ns) (h2 : ∀ (l : Addr) (H' : Hp), Same H H' → H l = none → H' l = some (.lst (tl ns)) → Q (.ref l) H') : Isp_tree_of K C vs H Q
noncomputable def sp_tree_of (K : PySem.W.Frag) (C : Addr) : Sp := fun vs H Q _ => Isp_tree_of K C vs H Q
theorem d_tree_of {f C : Addr} {fd : FuncData} (F : Fun K "tree_of" "tree_of" s_tree_of f fd) (T : Txt K mg C) (D_tree_over : Def P w K mg base 43 "tree_over" ["row", "first", "behind", "over"] (sp_tree_over K C)) (D_Row_numbers : DefM P w K mg base 1 C "numbers" ["self"] (sp_Row_numbers K C)) : FnOk P w K mg base CX0 44 f fd ["row"] (sp_tree_of K C) := by
  refine F.ok sc_tree_of (fun vs H Q E h => ?_) (fun cdv A outer s H vs Q E hr h => ?_)
  · obtain ⟨p, d, ns, rfl, _⟩ := h
    rfl
  · obtain ⟨p, d, ns, rfl, R, q⟩ := h
    obtain ⟨dx, o1⟩ := R.ob
    have hs := R.sm
    refine ⟨_, (pss_one (ps_ret (pe_def D_tree_over (hr.mono (by decide)) (pa_cons (pv 0) (pa_cons pe_int (pa_cons (pe_callB call_len_seq rfl T.z_len PySem.boot_len (pa_cons (pe_defM0 D_Row_numbers T.cl (hr.mono (by decide)) (pv 0)) pa_nil)) (pa_cons pe_non pa_nil))))))), ?_⟩
    refine ⟨_, rfl, _, rfl, p, dx, _, rfl, o1, flds_no _ (by decide +kernel), p, d, ns, rfl, R, fun a ha => ?_⟩
    have s1 := same_new ha (.lst (ns.map V.int))
    refine ⟨a, _, rfl, .inl (SqL.of upd_same), p, d, ns, 0, ns.length, none, ?_, R.same s1, Nat.zero_le _, Nat.le_refl _, (by (first | with_reducible assumption | lia | omega)), fun l H2 s2 hl e2 => ?_⟩
    · rw [List.length_map]
      rfl
    · exact q l H2 (s1.trans s2) (s1.free hl) e2
noncomputable abbrev Pend := Nat × Nat × Option Nat
noncomputable def Stk (H : Hp) : List Addr → List Pend → Prop
  | [], [] => True
  | t :: rs, (f, b, top) :: st => H t = some (.tup [.int (f : Int), .int (b : Int), oV top]) ∧ Stk H rs st
  | _, _ => False
theorem Stk.to {H H' : Hp} (h : ∀ t xs, H t = some (.tup xs) → H' t = some (.tup xs)) : ∀ {rs : List Addr} {st : List Pend}, Stk H rs st → Stk H' rs st
  | [], [], _ => trivial
  | t :: rs, (f, b, top) :: st, ⟨a, c⟩ => ⟨h _ _ a, Stk.to h c⟩
theorem Stk.len {H : Hp} : ∀ {rs : List Addr} {st : List Pend}, Stk H rs st → rs.length = st.length
  | [], [], _ => rfl
  | t :: rs, (f, b, top) :: st, ⟨_, c⟩ => by
    show rs.length + 1 = st.length + 1
    rw [c.len]
noncomputable def wgt : List Pend → Nat
  | [] => 0
  | (f, b, _) :: st => 2 * (b - f) + 1 + wgt st
theorem wgt_len : ∀ st : List Pend, st.length ≤ wgt st
  | [] => Nat.le_refl _
  | (f, b, top) :: st => by
    have := wgt_len st
    show st.length + 1 ≤ 2 * (b - f) + 1 + wgt st
    (first | with_reducible assumption | lia | omega)
structure Half (g : Nat → Int) (n : Nat) (xs : List V) (st : List Pend) : Prop where
  len : xs.length = n
  le : ∀ p ∈ st, p.1 ≤ p.2.1 ∧ p.2.1 ≤ n
  pend : ∀ p ∈ st, ∀ q, p.1 ≤ q → q < p.2.1 → (Cart.trees g 0 n none)[q]? = (Cart.trees g p.1 (p.2.1 - p.1) p.2.2)[q - p.1]?
  done : ∀ q, q < n → xs[q]? = (Cart.trees g 0 n none)[q]?.map oV ∨ ∃ p ∈ st, p.1 ≤ q ∧ q < p.2.1
theorem Half.start (g : Nat → Int) (n : Nat) {xs : List V} (h : xs.length = n) : Half g n xs [(0, n, none)] where
  len := h
  le := fun p hp => by
    cases List.mem_singleton.mp hp
    exact ⟨Nat.zero_le _, Nat.le_refl _⟩
  pend := fun p hp q h1 h2 => by
    cases List.mem_singleton.mp hp
    rfl
  done := fun q hq => .inr ⟨_, List.mem_singleton.mpr rfl, Nat.zero_le _, hq⟩
theorem Half.fin {ns : List Int} {xs : List V} (h : Half (gn ns) ns.length xs []) : xs = tl ns := by
  refine List.ext_getElem? fun q => ?_
  by_cases hq : q < ns.length
  · rcases h.done q hq with e | ⟨p, hp, _⟩
    · unfold tl
      rw [List.getElem?_map, e]
    · cases hp
  · rw [List.getElem?_eq_none (by rw [h.len]; (first | with_reducible assumption | lia | omega)), List.getElem?_eq_none (by rw [tl_len]; (first | with_reducible assumption | lia | omega))]
theorem Half.skip {g : Nat → Int} {n f b : Nat} {top : Option Nat} {xs : List V} {st : List Pend} (h : Half g n xs ((f, b, top) :: st)) (hfb : ¬ f < b) : Half g n xs st where
  len := h.len
  le := fun p hp => h.le p (List.mem_cons_of_mem _ hp)
  pend := fun p hp => h.pend p (List.mem_cons_of_mem _ hp)
  done := fun q hq => by
    rcases h.done q hq with e | ⟨p, hp, h1, h2⟩
    · exact .inl e
    · rcases List.mem_cons.mp hp with e | e
      · subst e
        have h1' : f ≤ q := h1
        have h2' : q < b := h2
        (first | with_reducible assumption | lia | omega)
      · exact .inr ⟨p, e, h1, h2⟩
theorem Half.turn {g : Nat → Int} {n f b k : Nat} {top : Option Nat} {xs : List V} {st : List Pend} (h : Half g n xs ((f, b, top) :: st)) (hH : Cart.Head g f (b - f) k) : Half g n (xs.set k (oV top)) ((k + 1, b, some k) :: (f, k, some k) :: st) := by
  obtain ⟨hle1, hle2⟩ := h.le _ (List.mem_cons_self ..)
  have hle1 : f ≤ b := hle1
  have hle2 : b ≤ n := hle2
  have k1 := hH.lo
  have k2 := hH.hi
  have hfin := h.pend _ (List.mem_cons_self ..)
  have hfin : ∀ q, f ≤ q → q < b → (Cart.trees g 0 n none)[q]? = (Cart.trees g f (b - f) top)[q - f]? := hfin
  have hnode := Cart.trees_node top hH
  have eb : f + (b - f) - (k + 1) = b - (k + 1) := by (first | with_reducible assumption | lia | omega)
  rw [eb] at hnode
  have l1 := Cart.trees_len g f (k - f) (some k)
  refine ⟨by rw [List.length_set]; exact h.len, fun p hp => ?_, fun p hp q h1 h2 => ?_, fun q hq => ?_⟩
  · rcases List.mem_cons.mp hp with e | e
    · subst e
      exact ⟨by show k + 1 ≤ b; (first | with_reducible assumption | lia | omega), hle2⟩
    · rcases List.mem_cons.mp e with e | e
      · subst e
        exact ⟨k1, by show k ≤ n; (first | with_reducible assumption | lia | omega)⟩
      · exact h.le p (List.mem_cons_of_mem _ e)
  · rcases List.mem_cons.mp hp with e | e
    · subst e
      have h1 : k + 1 ≤ q := h1
      have h2 : q < b := h2
      rw [hfin q (by (first | with_reducible assumption | lia | omega)) h2, hnode, List.getElem?_append_right (by (first | with_reducible assumption | lia | omega)), l1]
      have e1 : q - f - (k - f) = (q - (k + 1)) + 1 := by (first | with_reducible assumption | lia | omega)
      rw [e1, List.getElem?_cons_succ]
    · rcases List.mem_cons.mp e with e | e
      · subst e
        have h1 : f ≤ q := h1
        have h2 : q < k := h2
        rw [hfin q h1 (by (first | with_reducible assumption | lia | omega)), hnode, List.getElem?_append_left (by (first | with_reducible assumption | lia | omega))]
      · exact h.pend p (List.mem_cons_of_mem _ e) q h1 h2
  · by_cases hk : q = k
    · subst hk
      left
      rw [hfin q k1 (by (first | with_reducible assumption | lia | omega)), hnode, List.getElem?_append_right (by (first | with_reducible assumption | lia | omega)), l1, Nat.sub_self, List.getElem?_cons_zero, List.getElem?_set_self (by rw [h.len]; (first | with_reducible assumption | lia | omega))]
      rfl
    · rcases h.done q hq with e | ⟨p, hp, h1, h2⟩
      · left
        rw [List.getElem?_set_ne (fun z => hk z.symm)]
        exact e
      · right
        rcases List.mem_cons.mp hp with e | e
        · subst e
          have h1 : f ≤ q := h1
          have h2 : q < b := h2
          rcases Nat.lt_or_ge q k with z | z
          · exact ⟨(f, k, some k), List.mem_cons_of_mem _ (List.mem_cons_self ..), h1, z⟩
          · exact ⟨(k + 1, b, some k), List.mem_cons_self .., by show k + 1 ≤ q; (first | with_reducible assumption | lia | omega), h2⟩
        · exact ⟨p, List.mem_cons_of_mem _ (List.mem_cons_of_mem _ e), h1, h2⟩
theorem rep_non (n : Nat) : (List.replicate n [V.non]).flatten.length = n := by
  rw [len_rep]
  show n * 1 = n
  (first | with_reducible assumption | lia | omega)
theorem stk_last (rs : List Addr) (t : Addr) : (((t :: rs).map V.ref).reverse)[((t :: rs).map V.ref).reverse.length - 1]? = some (.ref t) := by
  rw [List.map_cons, List.reverse_cons, List.length_append, List.length_singleton, Nat.add_sub_cancel, List.getElem?_append_right (Nat.le_refl _), Nat.sub_self]
  rfl
theorem stk_drop (rs : List Addr) (t : Addr) : ((t :: rs).map V.ref).reverse.dropLast = (rs.map V.ref).reverse := by
  rw [List.map_cons, List.reverse_cons, List.dropLast_concat]
theorem stk_push (rs : List Addr) (t : Addr) : (rs.map V.ref).reverse ++ [V.ref t] = ((t :: rs).map V.ref).reverse := by
  rw [List.map_cons, List.reverse_cons]
inductive Isp_law_tree (K : PySem.W.Frag) (C : Addr) (vs : List V) (H : Hp) (Q : VK) : Prop where
  | mk (a : Addr) (ns : List Int) (h0 : vs = [.ref a]) (h1 : SqL K H a (ns.map V.int)) (h2 : ns.length ≤ 100) (h3 : ∀ (l : Addr) (H' : Hp), Same H H' → H l = none → H' l = some (.lst (tl ns)) → Q (.ref l) H') : Isp_law_tree K C vs H Q
noncomputable def sp_law_tree (K : PySem.W.Frag) (C : Addr) : Sp := fun vs H Q _ => Isp_law_tree K C vs H Q
theorem d_law_tree {f C : Addr} {fd : FuncData} (F : Fun K "_law_tree" "_law_tree" s_law_tree f fd) (T : Txt K mg C)  : FnOk P w K mg base CX0 1 f fd ["numbers"] (sp_law_tree K C) := by
  refine F.ok sc_law_tree (fun vs H Q E h => ?_) (fun cdv A outer s H vs Q E hr h => ?_)
  · obtain ⟨a, ns, rfl, _⟩ := h
    rfl
  · obtain ⟨a, ns, rfl, hS, hs, q⟩ := h
    have hlm : (ns.map V.int).length = ns.length := List.length_map _
    refine ⟨_, (pss_cons (ps_set (i := 1) sc_law_tree.nd rfl (by first | exact Or.inl rfl | exact Or.inr rfl) (pe_op op_rep (pe_lst (pa_cons pe_non pa_nil)) (pe_callB call_len_seq rfl T.z_len PySem.boot_len (pa_cons (pv 0) pa_nil))))
      (pss_cons (ps_set (i := 2) sc_law_tree.nd rfl (by first | exact Or.inl rfl | exact Or.inr rfl) (pe_lst (pa_cons (pe_tup (pa_cons pe_int (pa_cons (pe_callB call_len_seq rfl T.z_len PySem.boot_len (pa_cons (pv 0) pa_nil)) (pa_cons pe_non pa_nil)))) pa_nil)))
      (pss_cons (ps_while PassesOwn.never (pt_cmpR op_gt (pe_callB call_len_seq rfl T.z_len PySem.boot_len (pa_cons (pv 2) pa_nil)) pe_int (nomark _)) (pss_cons (ps_asg (pe_bm0 PySem.F.plainAttrs_list PySem.F.slot_list_pop PySem.F.type_list_pop mt_pop (pv 2)) (pg_tup rfl (pgs_cons (pg_name (i := 3) sc_law_tree.nd rfl (by first | exact Or.inl rfl | exact Or.inr rfl)) (pgs_cons (pg_name (i := 4) sc_law_tree.nd rfl (by first | exact Or.inl rfl | exact Or.inr rfl)) (pgs_cons (pg_name (i := 5) sc_law_tree.nd rfl (by first | exact Or.inl rfl | exact Or.inr rfl)) pgs_nil)))))
      (pss_one (ps_if (pt_cmpR op_lt (pv 3) (pv 4) (nomark _)) (pss_cons (ps_set (i := 6) sc_law_tree.nd rfl (by first | exact Or.inl rfl | exact Or.inr rfl) (pv 3))
      (pss_cons (ps_for PassesOwn.never rfl (pi_range2 rfl T.z_range (pa_cons (pv 3) (pa_cons (pv 4) pa_nil))) (pg_name (i := 7) sc_law_tree.nd rfl (by first | exact Or.inl rfl | exact Or.inr rfl))
        (pss_one (ps_if (pt_cmpR op_lt (pe_ix ix_list (pv 0) (pv 7) (fun _ _ => rfl)) (pe_ix ix_list (pv 0) (pv 6) (fun _ _ => rfl)) (nomark _)) (pss_one (ps_set (i := 6) sc_law_tree.nd rfl (by first | exact Or.inl rfl | exact Or.inr rfl) (pv 7))) pss_nil)))
      (pss_cons (ps_asg (pv 5) (pg_sub (pv 1) (pv 6) set_list))
      (pss_cons (ps_expr (pe_bm PySem.F.plainAttrs_list PySem.F.slot_list_append PySem.F.type_list_append mt_append (pv 2) (pa_cons (pe_tup (pa_cons (pv 3) (pa_cons (pv 6) (pa_cons (pv 6) pa_nil)))) pa_nil)))
      (pss_one (ps_expr (pe_bm PySem.F.plainAttrs_list PySem.F.slot_list_append PySem.F.type_list_append mt_append (pv 2) (pa_cons (pe_tup (pa_cons (pe_op op_add (pv 6) pe_int) (pa_cons (pv 4) (pa_cons (pv 6) pa_nil)))) pa_nil)))))))) pss_nil))))
      (pss_one (ps_ret (pv 1)))))), ?_⟩
    refine ⟨(by show 1 ≤ sizeLine; decide), fun l0 hl0 => ?_⟩
    have s0 := same_new hl0 (.lst [.non])
    refine ⟨_, rfl, a, _, rfl, .inl (s0.seq hS), l0, _, _, rfl, rfl, upd_same, (by (first | with_reducible assumption | lia | omega)), (by (first | with_reducible assumption | lia | omega)), (by rw [hlm]; show 1 * _ ≤ _; rw [Nat.one_mul, Int.toNat_natCast]; exact small (by (first | with_reducible assumption | lia | omega))), fun l hl => ?_⟩
    rw [hlm, Int.toNat_natCast]
    have s1 := s0.trans (same_new hl (.lst (List.replicate ns.length [V.non]).flatten))
    have hl' := s0.free hl
    refine ⟨_, rfl, a, _, rfl, .inl (s1.seq hS), (by show 3 ≤ sizeLine; decide), fun t0 ht0 => ⟨(by show 1 ≤ sizeLine; decide), fun td htd => ?_⟩⟩
    rw [hlm] at htd ⊢
    have s2 := s1.trans (same_new ht0 (.tup [.int 0, .int (ns.length : Int), .non]))
    have s3 := s2.trans (same_new htd (.lst [.ref t0]))
    have hl_td : l ≠ td := ne_of_none (by rw [upd_ne (ne_of_none upd_same ht0)]; exact upd_same) htd
    have hl_t0 : l ≠ t0 := ne_of_none upd_same ht0
    have ht0_td : t0 ≠ td := ne_of_none upd_same htd
    have htd' := s2.free htd
    refine ⟨fun m σ H2 => ∃ (v3 v4 v5 v6 v7 : Option V) (xs : List V) (rs : List Addr) (st : List Pend), σ = [some (.ref a), some (.ref l), some (.ref td), v3, v4, v5, v6, v7] ∧ Same H H2 ∧ H2 l = some (.lst xs) ∧ H2 td = some (.lst (rs.map V.ref).reverse) ∧ Stk H2 rs st ∧ Half (gn ns) ns.length xs st ∧ wgt st = m ∧ m ≤ 201,
      ⟨_, _, _, _, _, _, _, [t0], [(0, ns.length, none)], rfl, s3, ?_, upd_same, ⟨?_, trivial⟩, Half.start _ _ (rep_non _), rfl, ?_⟩, ?_⟩
    · rw [upd_ne hl_td, upd_ne hl_t0]; exact upd_same
    · rw [upd_ne ht0_td]; exact upd_same
    · show 2 * (ns.length - 0) + 1 + 0 ≤ 201
      (first | with_reducible assumption | lia | omega)
    rintro m σ H2 ⟨v3, v4, v5, v6, v7, xs, rs, st, rfl, s4, el, et, hk, hh, hm, hm2⟩
    refine ⟨_, rfl, td, _, rfl, .inl (SqL.of et), _, _, rfl, rfl, _, rfl, ite2 (fun c => ?_) (fun c => ?_)⟩
    · have c' : 0 < rs.length := by
        have := of_decide_eq_true c
        rw [List.length_reverse, List.length_map] at this
        (first | with_reducible assumption | lia | omega)
      cases rs with
      | nil => cases c'
      | cons t rs =>
      cases st with
      | nil => exact hk.elim
      | cons p st =>
      obtain ⟨f, b, top⟩ := p
      obtain ⟨ht, hk⟩ := hk
      obtain ⟨hfb, hbn⟩ := hh.le _ (List.mem_cons_self ..)
      have hfb : f ≤ b := hfb
      have hbn : b ≤ ns.length := hbn
      have hw : 2 * (b - f) + 1 + wgt st = m := hm
      refine ⟨fun σ' H' => ∃ m', m' < m ∧ _, fun σ' H' h => h, ?_⟩
      refine ⟨_, rfl, .inl ⟨rfl, _, SqL.of et⟩, td, _, _, rfl, rfl, et, stk_last rs t, ?_⟩
      rw [stk_drop]
      have htt : t ≠ td := ne_of ht et (by intro z; cases z)
      have ltd : l ≠ td := by
        intro z
        rw [z] at hl_td
        exact hl_td rfl
      have B5 : But td H2 _ := But.upd (o := .lst (rs.map V.ref).reverse)
      have et5 : (upd H2 td (.lst (rs.map V.ref).reverse)) td = _ := upd_same
      generalize upd H2 td (.lst (rs.map V.ref).reverse) = H5 at B5 et5 ⊢
      have s5 : Same H H5 := fun c o z => B5 _ _ (s4 _ _ z) (ne_of_none z htd')
      have el5 := B5 _ _ el ltd
      have k5 := hk.to fun c o z => B5 _ _ z (ne_of z et (by intro y; cases y))
      refine ⟨t, _, rfl, SqT.of (B5 _ _ ht htt), rfl, _, _, rfl, _, _, rfl, _, _, rfl, rfl, ?_⟩
      try dsimp only [gName, List.set]
      refine ⟨_, rfl, _, rfl, _, _, rfl, rfl, _, rfl, ite2 (fun c2 => ?_) (fun c2 => ?_)⟩
      · have c3 : (f : Int) < (b : Int) := of_decide_eq_true c2
        have hS5 := s5.seq hS
        refine ⟨_, rfl, _, rfl, _, rfl, (f : Int), (b : Int), rfl, ⟨by (first | with_reducible assumption | lia | omega), by (first | with_reducible assumption | lia | omega), by (first | with_reducible assumption | lia | omega), by (first | with_reducible assumption | lia | omega)⟩, for_range (lo := (f : Int)) (n := ((b : Int) - (f : Int)).toNat)
          (fun i σ H6 => ∃ v7 : Option V, σ = [some (.ref a), some (.ref l), some (.ref td), some (.int (f : Int)), some (.int (b : Int)), some (oV top), some (.int (Cart.hd (gn ns) f i : Nat)), v7] ∧ H6 = H5) ⟨_, rfl, rfl⟩ ?_ ?_⟩
        · rintro i σ H6 hi ⟨v7, rfl, rfl⟩
          have e1 : ((f : Int) + (i : Int)).toNat = f + i := by (first | with_reducible assumption | lia | omega)
          have hdl : Cart.hd (gn ns) f i < ns.length := by
            cases i with
            | zero => show f < _; (first | with_reducible assumption | lia | omega)
            | succ i => have := (Cart.hd_head (gn ns) f i).hi; (first | with_reducible assumption | lia | omega)
          refine ⟨_, rfl, _, rfl, a, _, _, _, rfl, rfl, hS5, atI_int (by (first | with_reducible assumption | lia | omega)) (by (first | with_reducible assumption | lia | omega)), _, rfl, _, rfl, a, _, _, _, rfl, rfl, hS5, atI_int (by (first | with_reducible assumption | lia | omega)) (by (first | with_reducible assumption | lia | omega)), _, _, rfl, rfl, _, rfl, ?_⟩
          rw [e1, Int.toNat_natCast]
          have estep : Cart.hd (gn ns) f (i + 1) = if ns.getD (f + i) 0 < ns.getD (Cart.hd (gn ns) f i) 0 then f + i else Cart.hd (gn ns) f i := rfl
          refine ite2 (fun c => ?_) (fun c => ?_)
          · rw [if_pos (of_decide_eq_true c)] at estep
            refine ⟨_, rfl, some (.int ((f : Int) + (i : Int))), ?_, rfl⟩
            rw [estep, Int.natCast_add]
            rfl
          · rw [if_neg (fun z => c (decide_eq_true z))] at estep
            refine ⟨some (.int ((f : Int) + (i : Int))), ?_, rfl⟩
            rw [estep]
            rfl
        · rintro σ H6 ⟨v7, rfl, rfl⟩
          have en : ((b : Int) - (f : Int)).toNat = b - f := by (first | with_reducible assumption | lia | omega)
          rw [en]
          have hH : Cart.Head (gn ns) f (b - f) (Cart.hd (gn ns) f (b - f)) := by
            have e : b - f = (b - f - 1) + 1 := by (first | with_reducible assumption | lia | omega)
            rw [e]
            exact Cart.hd_head _ _ _
          generalize Cart.hd (gn ns) f (b - f) = hk' at hH ⊢
          have q1 := hH.lo
          have q2 := hH.hi
          have hlx := hh.len
          refine ⟨_, rfl, _, rfl, _, rfl, l, _, _, _, rfl, rfl, el5, ixN_int (by (first | with_reducible assumption | lia | omega)) (by (first | with_reducible assumption | lia | omega)), ?_⟩
          rw [Int.toNat_natCast]
          have B7 : But l H6 _ := But.upd (o := .lst (xs.set hk' (oV top)))
          have el7 : (upd H6 l (.lst (xs.set hk' (oV top)))) l = _ := upd_same
          generalize upd H6 l (.lst (xs.set hk' (oV top))) = H7 at B7 el7 ⊢
          have et7 := B7 _ _ et5 ltd.symm
          have s7 : Same H H7 := fun c o z => B7 _ _ (s5 _ _ z) (ne_of_none z hl')
          have k7 := k5.to fun c o z => B7 _ _ z (ne_of z el5 (by intro y; cases y))
          refine ⟨_, rfl, .inl ⟨rfl, _, SqL.of et7⟩, _, rfl, _, rfl, _, rfl, (by show 3 ≤ sizeLine; decide), fun t1 ht1 => ?_⟩
          have u1 := same_new ht1 (.tup [.int (f : Int), .int (hk' : Int), .int (hk' : Int)])
          have hlen := hk.len
          have hwl := wgt_len st
          refine ⟨td, _, _, rfl, rfl, u1 _ _ et7, small1000 (by rw [List.length_reverse, List.length_map]; (first | with_reducible assumption | lia | omega)), ?_⟩
          rw [stk_push]
          have h1td : t1 ≠ td := (ne_of_none et7 ht1).symm
          have k8 : Stk (upd (upd H7 t1 (.tup [.int (f : Int), .int (hk' : Int), .int (hk' : Int)])) td (.lst ((t1 :: rs).map V.ref).reverse)) (t1 :: rs) ((f, hk', some hk') :: st) :=
            ⟨by rw [upd_ne h1td]; exact upd_same, k7.to fun c o z => by rw [upd_ne (ne_of z et7 (by intro y; cases y))]; exact u1 _ _ z⟩
          have el8 : (upd (upd H7 t1 (.tup [.int (f : Int), .int (hk' : Int), .int (hk' : Int)])) td (.lst ((t1 :: rs).map V.ref).reverse)) l = some (.lst (xs.set hk' (oV top))) := by
            rw [upd_ne ltd]; exact u1 _ _ el7
          have s8 : Same H (upd (upd H7 t1 (.tup [.int (f : Int), .int (hk' : Int), .int (hk' : Int)])) td (.lst ((t1 :: rs).map V.ref).reverse)) := fun c o z => by
            rw [upd_ne (ne_of_none z htd')]; exact u1 _ _ (s7 _ _ z)
          have et8 : (upd (upd H7 t1 (.tup [.int (f : Int), .int (hk' : Int), .int (hk' : Int)])) td (.lst ((t1 :: rs).map V.ref).reverse)) td = _ := upd_same
          generalize upd (upd H7 t1 (.tup [.int (f : Int), .int (hk' : Int), .int (hk' : Int)])) td (.lst ((t1 :: rs).map V.ref).reverse) = H8 at k8 el8 s8 et8 ⊢
          refine ⟨_, rfl, .inl ⟨rfl, _, SqL.of et8⟩, _, rfl, _, _, rfl, rfl, _, rfl, _, rfl, (by show 3 ≤ sizeLine; decide), fun t2 ht2 => ?_⟩
          have u2 := same_new ht2 (.tup [.int ((hk' : Int) + 1), .int (b : Int), .int (hk' : Int)])
          refine ⟨td, _, _, rfl, rfl, u2 _ _ et8, small1000 (by rw [List.length_reverse, List.length_map]; show rs.length + 1 ≤ _; (first | with_reducible assumption | lia | omega)), ?_⟩
          rw [stk_push]
          have h2td : t2 ≠ td := (ne_of_none et8 ht2).symm
          refine ⟨wgt ((hk' + 1, b, some hk') :: (f, hk', some hk') :: st), ?_, _, _, _, _, _, _, t2 :: t1 :: rs, (hk' + 1, b, some hk') :: (f, hk', some hk') :: st, rfl, fun c o z => ?_, ?_, upd_same, ⟨?_, k8.to fun c o z => ?_⟩, hh.turn hH, rfl, ?_⟩
          · show 2 * (b - (hk' + 1)) + 1 + (2 * (hk' - f) + 1 + wgt st) < m
            (first | with_reducible assumption | lia | omega)
          · rw [upd_ne (ne_of_none z htd')]; exact u2 _ _ (s8 _ _ z)
          · rw [upd_ne ltd]; exact u2 _ _ el8
          · rw [upd_ne h2td, upd_same]
            rfl
          · rw [upd_ne (ne_of z et8 (by intro y; cases y))]; exact u2 _ _ z
          · show 2 * (b - (hk' + 1)) + 1 + (2 * (hk' - f) + 1 + wgt st) ≤ 201
            (first | with_reducible assumption | lia | omega)
      · have c3 : ¬ f < b := fun z => c2 (decide_eq_true (by (first | with_reducible assumption | lia | omega)))
        exact ⟨wgt st, by (first | with_reducible assumption | lia | omega), _, _, _, _, _, _, rs, st, rfl, s5, el5, et5, k5, hh.skip c3, rfl, by (first | with_reducible assumption | lia | omega)⟩
    · have c' : rs = [] := by
        cases rs with
        | nil => rfl
        | cons t rs => exact absurd (decide_eq_true (by rw [List.length_reverse, List.length_map]; show (0 : Int) < ((rs.length + 1 : Nat) : Int); (first | with_reducible assumption | lia | omega))) c
      subst c'
      cases st with
      | nil => exact ⟨_, rfl, q l H2 s4 hl' (by rw [el, hh.fin])⟩
      | cons p st => exact hk.elim
noncomputable def IsT (xs : List V) : Prop := ∃ t : Cart.BT, 0 < t.size ∧ t.size ≤ 40 ∧ xs = (t.list 0 none).map oV
noncomputable def isT (xs : List V) : Bool := @decide (IsT xs) (Classical.propDecidable _)
theorem isT_true {xs : List V} (h : IsT xs) : isT xs = true := @decide_eq_true _ (Classical.propDecidable _) h
theorem isT_false {xs : List V} (h : ¬ IsT xs) : isT xs = false := @decide_eq_false _ (Classical.propDecidable _) h
theorem oV_plain (x : Option Nat) : plainV (oV x) = true := by cases x <;> rfl
theorem plain_shape {xs : List V} (h : ∀ x ∈ xs, x = .non ∨ ∃ z, x = .int z) : ∀ x ∈ xs, plainV x = true := fun x hx => by
  rcases h x hx with e | ⟨z, e⟩ <;> rw [e] <;> rfl
structure FirstAt (xs : List V) (f b : Nat) (x : V) (i : Nat) : Prop where
  lo : f ≤ i
  hi : i < b
  at_ : xs[i]? = some x
  no : ∀ j, f ≤ j → j < i → xs[j]? ≠ some x
inductive Isp_head_under (K : PySem.W.Frag) (C : Addr) (vs : List V) (H : Hp) (Q : VK) : Prop where
  | mk (a : Addr) (xs : List V) (f b i : Nat) (x : V) (h0 : vs = [.ref a, .int (f : Int), .int (b : Int), x]) (h1 : SqL K H a xs) (h2 : (∀ x ∈ xs, plainV x = true)) (h3 : plainV x = true) (h4 : b ≤ xs.length) (h5 : FirstAt xs f b x i) (h6 : ∀ H', Same H H' → Q (.int (i : Int)) H') : Isp_head_under K C vs H Q
noncomputable def sp_head_under (K : PySem.W.Frag) (C : Addr) : Sp := fun vs H Q _ => Isp_head_under K C vs H Q
theorem d_head_under {f C : Addr} {fd : FuncData} (F : Fun K "head_under" "head_under" s_head_under f fd) (T : Txt K mg C)  : FnOk P w K mg base CX0 1 f fd ["tree", "first", "behind", "over"] (sp_head_under K C) := by
  refine F.ok sc_head_under (fun vs H Q E h => ?_) (fun cdv A outer s H vs Q E hr h => ?_)
  · obtain ⟨a, xs, f, b, i, x, rfl, _⟩ := h
    rfl
  · obtain ⟨a, xs, f, b, i, x, rfl, hS, hp, hx, hb, hf, q⟩ := h
    have h1 := hf.lo
    have h2 := hf.hi
    refine ⟨_, (pss_one (ps_ret (pe_op op_add (pv 1) (pe_bm PySem.F.plainAttrs_list PySem.F.slot_list_index PySem.F.type_list_index mt_indexV (pe_slice sl_list (pv 0) (po_some (pv 1)) (po_some (pv 2))) (pa_cons (pv 3) pa_nil))))), ?_⟩
    refine ⟨_, rfl, _, rfl, _, rfl, _, rfl, _, rfl, _, rfl, a, _, rfl, hS, fun l hl => ?_⟩
    rw [cutV_nn xs (by (first | with_reducible assumption | lia | omega)) hb]
    have s1 := same_new hl (.lst ((xs.drop f).take (b - f)))
    have hpl : ∀ y ∈ (xs.drop f).take (b - f), plainV y = true := fun y hy => hp y (part_mem hy)
    refine ⟨.inl ⟨rfl, _, SqL.of upd_same⟩, _, rfl, l, _, _, i - f, rfl, rfl, upd_same, plain_all hpl, plain_flat hx, ⟨x, ?_, ?_⟩, fun j z hj ez => ?_, _, _, rfl, rfl, ?_⟩
    · rw [getElem?_part xs (by (first | with_reducible assumption | lia | omega)), show f + (i - f) = i by (first | with_reducible assumption | lia | omega)]
      exact hf.at_
    · rw [plain_eqV hx hx, decide_eq_true rfl]
    · rw [getElem?_part xs (by (first | with_reducible assumption | lia | omega))] at ez
      rw [plain_eqV (hp z (List.mem_of_getElem? ez)) hx]
      refine decide_eq_false fun e => hf.no (f + j) (by (first | with_reducible assumption | lia | omega)) (by (first | with_reducible assumption | lia | omega)) ?_
      rw [ez, e]
    · have e : (f : Int) + ((i - f : Nat) : Int) = (i : Int) := by (first | with_reducible assumption | lia | omega)
      try dsimp only
      rw [e]
      exact q _ s1
noncomputable def IsP (xs : List V) (f b : Nat) (top : Option Nat) : Prop := ∃ t : Cart.BT, t.size = b - f ∧ (xs.drop f).take (b - f) = (t.list f top).map oV
noncomputable def isP (xs : List V) (f b : Nat) (top : Option Nat) : Bool := @decide (IsP xs f b top) (Classical.propDecidable _)
theorem isP_true {xs : List V} {f b : Nat} {top : Option Nat} (h : IsP xs f b top) : isP xs f b top = true := @decide_eq_true _ (Classical.propDecidable _) h
theorem isP_false {xs : List V} {f b : Nat} {top : Option Nat} (h : ¬ IsP xs f b top) : isP xs f b top = false := @decide_eq_false _ (Classical.propDecidable _) h
theorem isP_iff {xs ys zs : List V} {f b f' b' f'' b'' : Nat} {top top' top'' : Option Nat} (h : IsP xs f b top ↔ IsP ys f' b' top' ∧ IsP zs f'' b'' top'') : isP xs f b top = (isP ys f' b' top' && isP zs f'' b'' top'') := by
  by_cases c : IsP ys f' b' top'
  · by_cases c2 : IsP zs f'' b'' top''
    · rw [isP_true c, isP_true c2, isP_true (h.mpr ⟨c, c2⟩)]; rfl
    · rw [isP_true c, isP_false c2, isP_false fun z => c2 (h.mp z).2]; rfl
  · rw [isP_false c, isP_false fun z => c (h.mp z).1]; rfl
theorem isP_nil (xs : List V) (f : Nat) (top : Option Nat) : isP xs f f top = true := isP_true ⟨.nil, by rw [Nat.sub_self]; rfl, by rw [Nat.sub_self, List.take_zero]; rfl⟩
theorem count_one {α : Type} {p : α → Bool} : ∀ {l : List α}, l.countP p = 1 → ∃ a z b, l = a ++ z :: b ∧ p z = true ∧ (∀ x ∈ a, p x = false) ∧ ∀ x ∈ b, p x = false
  | [], h => by cases h
  | x :: l, h => by
    rw [List.countP_cons] at h
    by_cases c : p x = true
    · rw [if_pos c] at h
      have h0 : l.countP p = 0 := by (first | with_reducible assumption | lia | omega)
      refine ⟨[], x, l, rfl, c, fun y hy => (by cases hy), fun y hy => ?_⟩
      rw [List.countP_eq_zero] at h0
      exact Bool.eq_false_iff.mpr (h0 y hy)
    · rw [if_neg c] at h
      obtain ⟨a, z, b, e, h1, h2, h3⟩ := count_one (l := l) (by (first | with_reducible assumption | lia | omega))
      refine ⟨x :: a, z, b, by rw [e]; rfl, h1, fun y hy => ?_, h3⟩
      rcases List.mem_cons.mp hy with q | q
      · rw [q]; exact Bool.eq_false_iff.mpr c
      · exact h2 y q
theorem split_part {xs a b' : List V} {f b : Nat} {z : V} (h : (xs.drop f).take (b - f) = a ++ z :: b') (hb : b ≤ xs.length) : f + a.length < b ∧ (xs.drop f).take (f + a.length - f) = a ∧ (xs.drop (f + a.length + 1)).take (b - (f + a.length + 1)) = b' ∧ xs[f + a.length]? = some z := by
  have hl := congrArg List.length h
  rw [part_len xs hb, List.length_append, List.length_cons] at hl
  have h1 : f + a.length < b := by (first | with_reducible assumption | lia | omega)
  refine ⟨h1, ?_, ?_, ?_⟩
  · have e : f + a.length - f = a.length := by (first | with_reducible assumption | lia | omega)
    have h2 := congrArg (List.take a.length) h
    rw [List.take_take, Nat.min_eq_left (by (first | with_reducible assumption | lia | omega)), List.take_append_of_le_length (Nat.le_refl _), List.take_length] at h2
    rw [e, h2]
  · have h2 := congrArg (List.drop (a.length + 1)) h
    rw [List.drop_take, List.drop_drop] at h2
    have e1 : f + (a.length + 1) = f + a.length + 1 := by (first | with_reducible assumption | lia | omega)
    have e2 : b - f - (a.length + 1) = b - (f + a.length + 1) := by (first | with_reducible assumption | lia | omega)
    rw [e1, e2] at h2
    rw [h2]
    have e3 : a ++ z :: b' = (a ++ [z]) ++ b' := by rw [List.append_assoc]; rfl
    rw [e3, List.drop_append_of_le_length (by rw [List.length_append, List.length_singleton]; exact Nat.le_refl _), List.drop_of_length_le (by rw [List.length_append, List.length_singleton]; exact Nat.le_refl _)]
    rfl
  · have h2 := congrArg (fun l => l[a.length]?) h
    try dsimp only at h2
    rw [getElem?_part xs (by (first | with_reducible assumption | lia | omega)), List.getElem?_append_right (Nat.le_refl _), Nat.sub_self] at h2
    exact h2
theorem list_no_top {l r : Cart.BT} {f n : Nat} {top : Option Nat} (hO : Cart.Out f n top) (hn : l.size + r.size + 1 = n) : (∀ x ∈ (l.list f (some (f + l.size))).map oV, x ≠ oV top) ∧ ∀ x ∈ (r.list (f + l.size + 1) (some (f + l.size))).map oV, x ≠ oV top := by
  refine ⟨fun x hx e => ?_, fun x hx e => ?_⟩
  · obtain ⟨y, hy, rfl⟩ := List.mem_map.mp hx
    have e := oV_inj e
    rcases Cart.list_mem _ _ _ _ hy with z | ⟨q, z, z1, z2⟩
    · rcases hO _ (e.symm.trans z) with y | y <;> (first | with_reducible assumption | lia | omega)
    · rcases hO _ (e.symm.trans z) with y | y <;> (first | with_reducible assumption | lia | omega)
  · obtain ⟨y, hy, rfl⟩ := List.mem_map.mp hx
    have e := oV_inj e
    rcases Cart.list_mem _ _ _ _ hy with z | ⟨q, z, z1, z2⟩
    · rcases hO _ (e.symm.trans z) with y | y <;> (first | with_reducible assumption | lia | omega)
    · rcases hO _ (e.symm.trans z) with y | y <;> (first | with_reducible assumption | lia | omega)
theorem isP_node {xs : List V} {f b : Nat} {top : Option Nat} (hfb : f < b) (hO : Cart.Out f (b - f) top) (h : IsP xs f b top) : ∃ l r : Cart.BT, l.size + r.size + 1 = b - f ∧ (xs.drop f).take (b - f) = (l.list f (some (f + l.size))).map oV ++ oV top :: (r.list (f + l.size + 1) (some (f + l.size))).map oV := by
  obtain ⟨t, ht, e⟩ := h
  cases t with
  | nil =>
    have : (0 : Nat) = b - f := ht
    (first | with_reducible assumption | lia | omega)
  | node l r =>
    refine ⟨l, r, ht, ?_⟩
    rw [e]
    show (l.list f (some (f + l.size)) ++ top :: r.list (f + l.size + 1) (some (f + l.size))).map oV = _
    rw [List.map_append, List.map_cons]
theorem isP_count {xs : List V} {f b : Nat} {top : Option Nat} (hfb : f < b) (hO : Cart.Out f (b - f) top) (h : IsP xs f b top) : ((xs.drop f).take (b - f)).countP (fun z => eqV z (oV top)) = 1 := by
  obtain ⟨l, r, hn, e⟩ := isP_node hfb hO h
  obtain ⟨n1, n2⟩ := list_no_top hO hn
  have z : ∀ ys : List (Option Nat), (∀ x ∈ ys.map oV, x ≠ oV top) → (ys.map oV).countP (fun z => eqV z (oV top)) = 0 := fun ys hy => by
    rw [List.countP_eq_zero]
    intro x hx
    obtain ⟨y, _, rfl⟩ := List.mem_map.mp hx
    rw [plain_eqV (oV_plain y) (oV_plain top)]
    intro c
    exact hy _ hx (of_decide_eq_true c)
  rw [e, List.countP_append, List.countP_cons, z _ n1, z _ n2, plain_eqV (oV_plain top) (oV_plain top), decide_eq_true rfl]
  rfl
theorem isP_parts {xs : List V} {f b : Nat} {top : Option Nat} {x y : List V} (hb : b ≤ xs.length) (hO : Cart.Out f (b - f) top) (e : (xs.drop f).take (b - f) = x ++ oV top :: y) (hx : ∀ z ∈ x, z ≠ oV top) (hy : ∀ z ∈ y, z ≠ oV top) :
    IsP xs f b top ↔ IsP xs f (f + x.length) (some (f + x.length)) ∧ IsP xs (f + x.length + 1) b (some (f + x.length)) := by
  obtain ⟨h1, h2, h3, h4⟩ := split_part e hb
  constructor
  · intro h
    obtain ⟨l, r, hn, e'⟩ := isP_node (by (first | with_reducible assumption | lia | omega)) hO h
    obtain ⟨n1, n2⟩ := list_no_top hO hn
    rw [e] at e'
    have hl : x.length = l.size := by
      have ll : ((l.list f (some (f + l.size))).map oV).length = l.size := by rw [List.length_map, Cart.list_len]
      rcases Nat.lt_trichotomy x.length l.size with z | z | z
      · exfalso
        have q := congrArg (fun w => w[x.length]?) e'
        try dsimp only at q
        rw [List.getElem?_append_right (Nat.le_refl _), Nat.sub_self, List.getElem?_cons_zero, List.getElem?_append_left (by rw [ll]; exact z)] at q
        exact n1 _ (List.mem_of_getElem? q.symm) rfl
      · exact z
      · exfalso
        have q := congrArg (fun w => w[l.size]?) e'
        try dsimp only at q
        rw [List.getElem?_append_left z, List.getElem?_append_right (by rw [ll]; exact Nat.le_refl _), ll, Nat.sub_self, List.getElem?_cons_zero] at q
        exact hx _ (List.mem_of_getElem? q) rfl
    obtain ⟨q1, q2⟩ := List.append_inj e' (by rw [List.length_map, Cart.list_len]; exact hl)
    have q3 := (List.cons.inj q2).2
    rw [← hl] at q1 q3
    exact ⟨⟨l, by (first | with_reducible assumption | lia | omega), h2.trans q1⟩, ⟨r, by (first | with_reducible assumption | lia | omega), h3.trans q3⟩⟩
  · rintro ⟨⟨l, l1, l2⟩, ⟨r, r1, r2⟩⟩
    have hl : l.size = x.length := by (first | with_reducible assumption | lia | omega)
    refine ⟨.node l r, by show l.size + r.size + 1 = _; (first | with_reducible assumption | lia | omega), ?_⟩
    rw [e]
    show _ = (l.list f (some (f + l.size)) ++ top :: r.list (f + l.size + 1) (some (f + l.size))).map oV
    rw [List.map_append, List.map_cons, hl, ← l2, ← r2, h2, h3]
inductive IspN_is_part (n : Nat) (K : PySem.W.Frag) (C : Addr) (vs : List V) (H : Hp) (Q : VK) : Prop where
  | mk (a : Addr) (xs : List V) (f b : Nat) (top : Option Nat) (h0 : vs = [.ref a, .int (f : Int), .int (b : Int), oV top]) (h1 : SqL K H a xs) (h2 : (∀ x ∈ xs, plainV x = true)) (h3 : f ≤ b) (h4 : b ≤ xs.length) (h5 : b - f < n) (h6 : Cart.Out f (b - f) top) (h7 : ∀ H', Same H H' → Q (.bl (isP xs f b top)) H') : IspN_is_part n K C vs H Q
noncomputable def spN_is_part (n : Nat) (K : PySem.W.Frag) (C : Addr) : Sp := fun vs H Q _ => IspN_is_part n K C vs H Q
theorem spN0_is_part {K : PySem.W.Frag} {C : Addr} {vs : List V} {H : Hp} {Q : VK} {E : XK} : ¬ spN_is_part 0 K C vs H Q E := by
  rintro ⟨_, _, _, _, _, _, _, _, _, _, h, _⟩
  exact Nat.not_lt_zero _ h
noncomputable def sp_is_part (K : PySem.W.Frag) (C : Addr) : Sp := spN_is_part 41 K C
theorem d_is_part {f C : Addr} {fd : FuncData} (F : Fun K "is_part" "is_part" s_is_part f fd) (T : Txt K mg C) (hmf : mg "is_part" = some (.ref f)) (hkf : PySem.W.keepIn K (.ref f) = true) (hbf : Binds K fd ["some", "first", "behind", "over"] []) (D_head_under : Def P w K mg base 1 "head_under" ["tree", "first", "behind", "over"] (sp_head_under K C)) : FnOk P w K mg base CX0 (1 + 41) f fd ["some", "first", "behind", "over"] (sp_is_part K C) := by
  refine rec_ok (x := "is_part") (m := 1) (fun n => spN_is_part n K C) (fun _ _ _ _ => spN0_is_part) hmf hkf hbf (fun n D_is_part => ?_) 41
  refine F.ok sc_is_part (fun vs H Q E h => ?_) (fun cdv A outer s H vs Q E hr h => ?_)
  · obtain ⟨a, xs, f, b, top, rfl, _⟩ := h
    rfl
  · obtain ⟨a, xs, f, b, top, rfl, hS, hp, hfb, hb, hn, hO, q⟩ := h
    refine ⟨_, (pss_cons (ps_if (pt_cmpR op_eq (pv 1) (pv 2) (nomark _)) (pss_one (ps_ret pe_bl)) pss_nil)
      (pss_cons (ps_if (pt_cmpR op_ne (pe_bm PySem.F.plainAttrs_list PySem.F.slot_list_count PySem.F.type_list_count mt_count (pe_slice sl_list (pv 0) (po_some (pv 1)) (po_some (pv 2))) (pa_cons (pv 3) pa_nil)) pe_int (nomark _)) (pss_one (ps_ret pe_bl)) pss_nil)
      (pss_cons (ps_set (i := 4) sc_is_part.nd rfl (by first | exact Or.inl rfl | exact Or.inr rfl) (pe_def D_head_under (hr.mono (by (first | with_reducible assumption | lia | omega))) (pa_cons (pv 0) (pa_cons (pv 1) (pa_cons (pv 2) (pa_cons (pv 3) pa_nil))))))
      (pss_one (ps_ret (pe_and (pe_def D_is_part (hr.mono (by (first | with_reducible assumption | lia | omega))) (pa_cons (pv 0) (pa_cons (pv 1) (pa_cons (pv 4) (pa_cons (pv 4) pa_nil))))) (pe_one (pe_def D_is_part (hr.mono (by (first | with_reducible assumption | lia | omega))) (pa_cons (pv 0) (pa_cons (pe_op op_add (pv 4) pe_int) (pa_cons (pv 2) (pa_cons (pv 4) pa_nil)))))))))))), ?_⟩
    refine ⟨_, rfl, _, rfl, rfl, _, rfl, ite2 (fun c => ?_) (fun c => ?_)⟩
    · have e : f = b := by
        have := V.int.inj (of_decide_eq_true c)
        (first | with_reducible assumption | lia | omega)
      subst e
      rw [isP_nil] at q
      exact q H (Same.refl H)
    · have hlt : f < b := by
        rcases Nat.lt_or_ge f b with z | z
        · exact z
        · exact absurd (decide_eq_true (show V.int (f : Int) = V.int (b : Int) by rw [show f = b by (first | with_reducible assumption | lia | omega)])) c
      refine ⟨_, rfl, _, rfl, _, rfl, _, rfl, _, rfl, a, _, rfl, hS, fun l hl => ?_⟩
      rw [cutV_nn xs (by (first | with_reducible assumption | lia | omega)) hb]
      have s1 := same_new hl (.lst ((xs.drop f).take (b - f)))
      have hpl : ∀ y ∈ (xs.drop f).take (b - f), plainV y = true := fun y hy => hp y (part_mem hy)
      refine ⟨.inl ⟨rfl, _, SqL.of upd_same⟩, _, rfl, l, _, _, rfl, rfl, upd_same, plain_all hpl, oV_flat top, rfl, _, rfl, ite2 (fun c1 => ?_) (fun c1 => ?_)⟩
      · have c2 : ¬ ((xs.drop f).take (b - f)).countP (fun z => eqV z (oV top)) = 1 := fun z => by
          rw [z] at c1
          revert c1
          decide
        have q' := q _ s1
        rw [isP_false fun z => c2 (isP_count hlt hO z)] at q'
        exact q'
      · have c2 : ((xs.drop f).take (b - f)).countP (fun z => eqV z (oV top)) = 1 := by
          by_cases z : ((xs.drop f).take (b - f)).countP (fun z => eqV z (oV top)) = 1
          · exact z
          · refine absurd ?_ c1
            rw [decide_eq_false (fun e => z (by have := V.int.inj e; (first | with_reducible assumption | lia | omega)))]
            rfl
        obtain ⟨x, z, y, e, hz, hx, hy⟩ := count_one c2
        have pm : ∀ w ∈ x ++ z :: y, plainV w = true := fun w hw => hpl w (by rw [e]; exact hw)
        have ez : z = oV top := by
          rw [plain_eqV (pm z (List.mem_append_right _ (List.mem_cons_self ..))) (oV_plain top)] at hz
          exact of_decide_eq_true hz
        subst ez
        have hx' : ∀ w ∈ x, w ≠ oV top := fun w hw => by
          have := hx w hw
          rw [plain_eqV (pm w (List.mem_append_left _ hw)) (oV_plain top)] at this
          exact of_decide_eq_false this
        have hy' : ∀ w ∈ y, w ≠ oV top := fun w hw => by
          have := hy w hw
          rw [plain_eqV (pm w (List.mem_append_right _ (List.mem_cons_of_mem _ hw))) (oV_plain top)] at this
          exact of_decide_eq_false this
        obtain ⟨h1, h2, h3, h4⟩ := split_part e hb
        have hi := isP_iff (isP_parts hb hO e hx' hy')
        rw [hi] at q
        have hF : FirstAt xs f b (oV top) (f + x.length) := ⟨by (first | with_reducible assumption | lia | omega), h1, h4, fun j z1 z2 z3 => by
          have q1 := congrArg (fun w => w[j - f]?) h2
          try dsimp only at q1
          rw [getElem?_part xs (b := f + x.length) (by (first | with_reducible assumption | lia | omega)), show f + (j - f) = j by (first | with_reducible assumption | lia | omega), z3] at q1
          exact hx' _ (List.mem_of_getElem? q1.symm) rfl⟩
        clear hi h4 h3 h2 e c1 c2
        generalize f + x.length = i at h1 q hF
        refine ⟨_, rfl, _, rfl, _, rfl, _, rfl, a, xs, f, b, i, _, rfl, s1.seq hS, hp, oV_plain top, hb, hF, fun H2 s2 => ?_⟩
        have h0 := hF.lo
        have s12 := s1.trans s2
        try dsimp only [gName, List.set]
        refine ⟨_, rfl, _, rfl, _, rfl, _, rfl, a, xs, f, i, some i, rfl, s12.seq hS, hp, h0, (by (first | with_reducible assumption | lia | omega)), (by (first | with_reducible assumption | lia | omega)), fun w z => (by cases z; right; (first | with_reducible assumption | lia | omega)), fun H3 s3 => ?_⟩
        refine ⟨_, rfl, ?_⟩
        have s13 := s12.trans s3
        cases ha : isP xs f i (some i) with
        | false =>
          rw [ha] at q
          exact iteF (q _ s13)
        | true =>
          rw [ha, Bool.true_and] at q
          refine iteT ?_
          exact ⟨_, rfl, _, rfl, _, _, rfl, rfl, _, rfl, _, rfl, a, xs, i + 1, b, some i, rfl, s13.seq hS, hp, by (first | with_reducible assumption | lia | omega), hb, by (first | with_reducible assumption | lia | omega), fun w z => (by cases z; left; (first | with_reducible assumption | lia | omega)), fun H4 s4 => q _ (s13.trans s4)⟩
theorem isT_isP {xs : List V} (h1 : 1 ≤ xs.length) (h2 : xs.length ≤ 40) : isT xs = isP xs 0 xs.length none := by
  have e : (xs.drop 0).take (xs.length - 0) = xs := by rw [List.drop_zero, Nat.sub_zero, List.take_length]
  by_cases c : IsP xs 0 xs.length none
  · rw [isP_true c]
    obtain ⟨t, ht, e'⟩ := c
    rw [e] at e'
    exact isT_true ⟨t, by (first | with_reducible assumption | lia | omega), by (first | with_reducible assumption | lia | omega), e'⟩
  · rw [isP_false c]
    refine isT_false fun ⟨t, z1, z2, e'⟩ => c ⟨t, ?_, by rw [e]; exact e'⟩
    have := congrArg List.length e'
    rw [List.length_map, Cart.list_len] at this
    (first | with_reducible assumption | lia | omega)
theorem isT_len {xs : List V} (h : ¬ (1 ≤ xs.length ∧ xs.length ≤ 40)) : isT xs = false := isT_false fun ⟨t, z1, z2, e'⟩ => h (by
  have := congrArg List.length e'
  rw [List.length_map, Cart.list_len] at this
  (first | with_reducible assumption | lia | omega))
inductive Isp_is_tree (K : PySem.W.Frag) (C : Addr) (vs : List V) (H : Hp) (Q : VK) : Prop where
  | mk (a : Addr) (xs : List V) (h0 : vs = [.ref a]) (h1 : H a = some (.lst xs)) (h2 : (∀ x ∈ xs, x = .non ∨ ∃ z, x = .int z)) (h3 : xs.length ≤ 60) (h4 : ∀ H', Same H H' → Q (.bl (isT xs)) H') : Isp_is_tree K C vs H Q
noncomputable def sp_is_tree (K : PySem.W.Frag) (C : Addr) : Sp := fun vs H Q _ => Isp_is_tree K C vs H Q
theorem d_is_tree {f C : Addr} {fd : FuncData} (F : Fun K "is_tree" "is_tree" s_is_tree f fd) (T : Txt K mg C) (D_is_part : Def P w K mg base 42 "is_part" ["some", "first", "behind", "over"] (sp_is_part K C)) : FnOk P w K mg base CX0 43 f fd ["some"] (sp_is_tree K C) := by
  refine F.ok sc_is_tree (fun vs H Q E h => ?_) (fun cdv A outer s H vs Q E hr h => ?_)
  · obtain ⟨a, xs, rfl, _⟩ := h
    rfl
  · obtain ⟨a, xs, rfl, hS0, hp, _, q⟩ := h
    have hS : SqL K H a xs := SqL.of hS0
    refine ⟨_, (pss_one (ps_ret (pe_and (pe_chain op_le op_le pe_int (pe_callB call_len_seq rfl T.z_len PySem.boot_len (pa_cons (pv 0) pa_nil)) (pe_glob (v := .int 40) rfl T.g_MOST_NUMBERS.choose_spec ⟨_, rfl⟩)) (pe_one (pe_def D_is_part (hr.mono (by decide)) (pa_cons (pv 0) (pa_cons pe_int (pa_cons (pe_callB call_len_seq rfl T.z_len PySem.boot_len (pa_cons (pv 0) pa_nil)) (pa_cons pe_non pa_nil))))))))), ?_⟩
    refine ⟨_, rfl, a, _, rfl, .inl hS, _, _, rfl, rfl, _, rfl, ite2 (fun c => ?_) (fun c => ?_)⟩
    · have c1 : (1 : Int) ≤ (xs.length : Int) := of_decide_eq_true c
      refine ⟨_, _, rfl, rfl, _, rfl, ite2 (fun c2 => ?_) (fun c2 => ?_)⟩
      · have c3 : (xs.length : Int) ≤ 40 := of_decide_eq_true c2
        have h1 : 1 ≤ xs.length := by (first | with_reducible assumption | lia | omega)
        have h2 : xs.length ≤ 40 := by (first | with_reducible assumption | lia | omega)
        rw [isT_isP h1 h2] at q
        exact ⟨_, rfl, _, rfl, a, _, rfl, .inl hS, a, xs, 0, xs.length, none, rfl, hS, plain_shape hp, Nat.zero_le _, Nat.le_refl _, by (first | with_reducible assumption | lia | omega), Cart.Out.none, q⟩
      · have c3 : ¬ (xs.length : Int) ≤ 40 := fun z => c2 (decide_eq_true z)
        rw [isT_len (by (first | with_reducible assumption | lia | omega))] at q
        exact q H (Same.refl H)
    · have c1 : ¬ (1 : Int) ≤ (xs.length : Int) := fun z => c (decide_eq_true z)
      rw [isT_len (by (first | with_reducible assumption | lia | omega))] at q
      exact ⟨_, rfl, iteF (q H (Same.refl H))⟩
noncomputable def bl (t : Cart.BT) : List V := (t.list 0 none).map oV
theorem bl_len (t : Cart.BT) : (bl t).length = t.size := by
  unfold bl
  rw [List.length_map, Cart.list_len]
theorem bl_flat (t : Cart.BT) : (bl t).all flatV = true := by
  unfold bl
  rw [List.all_map, List.all_eq_true]
  intro x _
  exact oV_flat x
theorem bl_shape (t : Cart.BT) : ∀ x ∈ bl t, x = .non ∨ ∃ z, x = .int z := by
  intro x hx
  obtain ⟨y, _, rfl⟩ := List.mem_map.mp hx
  exact oV_shape y
theorem bl_inj {t u : Cart.BT} (h : bl t = bl u) : t = u := by
  refine Cart.list_inj t u 0 none .none ?_
  have hm : ∀ {xs ys : List (Option Nat)}, xs.map oV = ys.map oV → xs = ys := by
    intro xs
    induction xs with
    | nil => intro ys h; cases ys with
      | nil => rfl
      | cons y ys => cases h
    | cons x xs ih => intro ys h; cases ys with
      | nil => cases h
      | cons y ys =>
        have h1 := (List.cons.inj h).1
        have h2 := (List.cons.inj h).2
        rw [oV_inj h1, ih h2]
  exact hm h
inductive Isp_law_numbers (K : PySem.W.Frag) (C : Addr) (vs : List V) (H : Hp) (Q : VK) : Prop where
  | mk (a b : Addr) (ns : List Int) (h0 : vs = [.ref a, .ref b]) (h1 : H a = some (.lst (ns.map V.int))) (h2 : H b = some (.lst (ns.map V.int))) (h3 : Q (.bl true) H) : Isp_law_numbers K C vs H Q
noncomputable def sp_law_numbers (K : PySem.W.Frag) (C : Addr) : Sp := fun vs H Q _ => Isp_law_numbers K C vs H Q
theorem d_law_numbers {f C : Addr} {fd : FuncData} (F : Fun K "_law_numbers" "_law_numbers" s_law_numbers f fd) (T : Txt K mg C) (D_law_whole : Def P w K mg base 1 "_law_whole" ["found"] (sp_law_whole K C)) : FnOk P w K mg base CX0 2 f fd ["found", "due"] (sp_law_numbers K C) := by
  refine F.ok sc_law_numbers (fun vs H Q E h => ?_) (fun cdv A outer s H vs Q E hr h => ?_)
  · obtain ⟨a, b, ns, rfl, _⟩ := h
    rfl
  · obtain ⟨a, b, ns, rfl, ha, hb, q⟩ := h
    refine ⟨_, (pss_cons (ps_if (PW.pt (pw_or (pt_not (pt_val (pe_callB call_isi rfl T.z_isinstance PyProof.Rows.boot_isinstance (pa_cons (pv 0) (pa_cons (pe_bltn (v := .ty "list") rfl T.z_list PyProof.Rows.boot_list rfl) pa_nil))))) (pw_or1 (pt_cmpR op_ne (pe_callB call_len_seq rfl T.z_len PySem.boot_len (pa_cons (pv 0) pa_nil)) (pe_callB call_len_seq rfl T.z_len PySem.boot_len (pa_cons (pv 1) pa_nil)) (nomark _))))) (pss_one (ps_ret pe_bl)) pss_nil)
      (pss_cons (ps_for PassesOwn.never rfl (pi_list (pv 0)) (pg_name (i := 2) sc_law_numbers.nd rfl (by first | exact Or.inl rfl | exact Or.inr rfl))
        (pss_one (ps_if (pt_not (pt_val (pe_def D_law_whole (hr.mono (by decide)) (pa_cons (pv 2) pa_nil)))) (pss_one (ps_ret pe_bl)) pss_nil)))
      (pss_one (ps_ret (pe_cmpR (op_eqS hr.units0) (pv 0) (pv 1) (nomark _)))))), ?_⟩
    refine ⟨_, rfl, _, _, _, _, rfl, .lst ha, kit_list_list K, _, rfl, iteF ?_⟩
    refine ⟨_, rfl, a, _, rfl, .inl (SqL.of ha), _, rfl, b, _, rfl, .inl (SqL.of hb), rfl, _, rfl, iteNS rfl ?_⟩
    refine ⟨_, rfl, a, rfl, ⟨_, SqL.of ha⟩, for_list (K := K) (a := a) (xs := ns.map V.int) (fun i σ H2 => ∃ v : Option V, σ = [some (.ref a), some (.ref b), v] ∧ H2 = H)
      ⟨none, rfl, rfl⟩ (fun i σ H2 _ ⟨_, _, e⟩ => by rw [e]; exact SqL.of ha) ?_ ?_⟩
    · rintro i x σ H2 hi ⟨v, rfl, rfl⟩
      obtain ⟨z, rfl⟩ := int_of hi
      exact ⟨_, rfl, z, rfl, _, rfl, iteF ⟨_, rfl, rfl⟩⟩
    · rintro σ H2 ⟨v, rfl, rfl⟩
      refine ⟨_, rfl, _, rfl, a, b, _, _, rfl, rfl, .inl ⟨SqL.of ha, SqL.of hb⟩, flat_ints _, flat_ints _, ?_⟩
      rw [eqLs_self (flat_ints _)]
      exact q
noncomputable def nV (n : Nat) : V := .int (n : Int)
theorem ints_nV (l : List Nat) : l.map nV = (l.map fun x : Nat => (x : Int)).map V.int := by
  rw [List.map_map]
  rfl
theorem getD_cast {l : List Nat} {i : Nat} : (l.map fun x : Nat => (x : Int)).getD i 0 = ((l.getD i 0 : Nat) : Int) := by
  simp only [List.getD_eq_getElem?_getD, List.getElem?_map]
  cases l[i]? <;> rfl
structure Part (xs : List V) (f b : Nat) (top : Option Nat) (t : Cart.BT) : Prop where
  le : f ≤ b
  hi : b ≤ xs.length
  out : Cart.Out f (b - f) top
  size : t.size = b - f
  eq : (xs.drop f).take (b - f) = (t.list f top).map oV
theorem Part.whole {t : Cart.BT} : Part (bl t) 0 t.size none t where
  le := Nat.zero_le _
  hi := by rw [bl_len]; exact Nat.le_refl _
  out := Cart.Out.none
  size := rfl
  eq := by
    rw [List.drop_zero, Nat.sub_zero, ← bl_len t, List.take_length]
    rfl
theorem Part.node {xs : List V} {f b : Nat} {top : Option Nat} {l r : Cart.BT} (p : Part xs f b top (.node l r)) : FirstAt xs f b (oV top) (f + l.size) ∧ Part xs f (f + l.size) (some (f + l.size)) l ∧ Part xs (f + l.size + 1) b (some (f + l.size)) r := by
  have hs : l.size + r.size + 1 = b - f := p.size
  have e : (xs.drop f).take (b - f) = (l.list f (some (f + l.size))).map oV ++ oV top :: (r.list (f + l.size + 1) (some (f + l.size))).map oV := by
    rw [p.eq]
    show (l.list f (some (f + l.size)) ++ top :: r.list (f + l.size + 1) (some (f + l.size))).map oV = _
    rw [List.map_append, List.map_cons]
  have ll : ((l.list f (some (f + l.size))).map oV).length = l.size := by rw [List.length_map, Cart.list_len]
  obtain ⟨h1, h2, h3, h4⟩ := split_part e p.hi
  rw [ll] at h1 h2 h3 h4
  obtain ⟨n1, n2⟩ := list_no_top p.out hs
  have hb := p.hi
  refine ⟨⟨by (first | with_reducible assumption | lia | omega), h1, h4, fun j z1 z2 z3 => ?_⟩, ⟨by (first | with_reducible assumption | lia | omega), by (first | with_reducible assumption | lia | omega), fun q z => ?_, by (first | with_reducible assumption | lia | omega), h2⟩, ⟨by (first | with_reducible assumption | lia | omega), hb, fun q z => ?_, by (first | with_reducible assumption | lia | omega), h3⟩⟩
  · have q1 := congrArg (fun w => w[j - f]?) h2
    try dsimp only at q1
    rw [getElem?_part xs (b := f + l.size) (by (first | with_reducible assumption | lia | omega)), show f + (j - f) = j by (first | with_reducible assumption | lia | omega), z3] at q1
    exact n1 _ (List.mem_of_getElem? q1.symm) rfl
  · cases z; right; (first | with_reducible assumption | lia | omega)
  · cases z; left; (first | with_reducible assumption | lia | omega)
theorem bl_plain (t : Cart.BT) : ∀ x ∈ bl t, plainV x = true := plain_shape (bl_shape t)
inductive Isp_check_tree (K : PySem.W.Frag) (C : Addr) (vs : List V) (H : Hp) (Q : VK) : Prop where
  | mk (a : Addr) (t : Cart.BT) (h0 : vs = [.ref a]) (h1 : H a = some (.lst (bl t))) (h2 : 0 < t.size) (h3 : t.size ≤ 40) (h4 : ∀ H', Same H H' → Q .non H') : Isp_check_tree K C vs H Q
noncomputable def sp_check_tree (K : PySem.W.Frag) (C : Addr) : Sp := fun vs H Q _ => Isp_check_tree K C vs H Q
theorem d_check_tree {f C : Addr} {fd : FuncData} (F : Fun K "check_tree" "check_tree" s_check_tree f fd) (T : Txt K mg C) (D_is_tree : Def P w K mg base 43 "is_tree" ["some"] (sp_is_tree K C)) : FnOk P w K mg base CX0 44 f fd ["some"] (sp_check_tree K C) := by
  refine F.ok sc_check_tree (fun vs H Q E h => ?_) (fun cdv A outer s H vs Q E hr h => ?_)
  · obtain ⟨a, t, rfl, _⟩ := h
    rfl
  · obtain ⟨a, t, rfl, ha, h1, h2, q⟩ := h
    refine ⟨_, (pss_one (ps_if (pt_not (pt_val (pe_def D_is_tree (hr.mono (by decide)) (pa_cons (pv 0) pa_nil)))) pss_never pss_nil)), ?_⟩
    refine ⟨_, rfl, a, _, rfl, ha, bl_shape t, (by rw [bl_len]; (first | with_reducible assumption | lia | omega)), fun H1 s1 => ⟨_, rfl, ?_⟩⟩
    have e : isT (bl t) = true := isT_true ⟨t, h1, h2, rfl⟩
    rw [e]
    exact iteF (q _ s1)
inductive Isp_check_number (K : PySem.W.Frag) (C : Addr) (vs : List V) (H : Hp) (Q : VK) : Prop where
  | mk (n k : Int) (h0 : vs = [.int n, .int k]) (h1 : 0 ≤ k) (h2 : k < n) (h3 : Q .non H) : Isp_check_number K C vs H Q
noncomputable def sp_check_number (K : PySem.W.Frag) (C : Addr) : Sp := fun vs H Q _ => Isp_check_number K C vs H Q
theorem d_check_number {f C : Addr} {fd : FuncData} (F : Fun K "check_number" "check_number" s_check_number f fd) (T : Txt K mg C)  : FnOk P w K mg base CX0 1 f fd ["many", "number"] (sp_check_number K C) := by
  refine F.ok sc_check_number (fun vs H Q E h => ?_) (fun cdv A outer s H vs Q E hr h => ?_)
  · obtain ⟨n, k, rfl, _⟩ := h
    rfl
  · obtain ⟨n, k, rfl, h0, h1, q⟩ := h
    refine ⟨_, (pss_one (ps_if (pt_not (pt_chain op_le op_lt pe_int (pv 1) (pv 0))) pss_never pss_nil)), ?_⟩
    exact ⟨_, rfl, _, _, rfl, rfl, _, rfl, ite2 (fun _ => ⟨_, rfl, _, _, rfl, rfl, _, rfl, iteNS h1 q⟩) (fun c => absurd (decide_eq_true h0) c)⟩
noncomputable def HasT (o : List Nat) (t : Cart.BT) : Prop := o.Perm (List.range t.size) ∧ Cart.Fits (fun j => (o.getD j 0 : Nat)) 0 t
theorem HasT.len {o : List Nat} {t : Cart.BT} (h : HasT o t) : o.length = t.size := by rw [h.1.length_eq, List.length_range]
theorem HasT.fit {o : List Nat} {t : Cart.BT} (h : HasT o t) : Cart.FitL t o := (Cart.fit_iff t o _ 0 h.len fun i _ => by rw [Nat.zero_add]).mp h.2
theorem range_lt (n : Nat) : (List.range n).Pairwise (· < ·) := List.pairwise_lt_range
noncomputable def ordNum (t : Cart.BT) (o : List Nat) : Nat := Cart.onum t (List.range t.size) o
theorem ordNum_lt {t : Cart.BT} {o : List Nat} (h : HasT o t) : ordNum t o < Cart.many t := (Cart.onum_ok t _ o (range_lt _) h.1 h.fit).1
theorem ordNum_inj {t : Cart.BT} {o o' : List Nat} (h : HasT o t) (h' : HasT o' t) (e : ordNum t o = ordNum t o') : o = o' := Cart.onum_inj (range_lt _) h.1 h'.1 h.fit h'.fit e
theorem nV_inj {a b : Nat} (h : nV a = nV b) : a = b := by
  have : ((a : Nat) : Int) = ((b : Nat) : Int) := V.int.inj h
  (first | with_reducible assumption | lia | omega)
theorem nVs_inj : ∀ {a b : List Nat}, a.map nV = b.map nV → a = b
  | [], [], _ => rfl
  | [], _ :: _, h => by cases h
  | _ :: _, [], h => by cases h
  | x :: a, y :: b, h => by
    have h1 := (List.cons.inj h).1
    have h2 := (List.cons.inj h).2
    rw [nV_inj h1, nVs_inj h2]
theorem nV_all (A : List Nat) : (A.map nV).all flatV = true := by
  rw [List.all_map, List.all_eq_true]; intro x _; rfl
theorem in_nV' (x : Nat) : ∀ B : List Nat, inV (nV x) (B.map nV) = decide (x ∈ B)
  | [] => rfl
  | y :: B => by
    show (eqV (nV y) (nV x) || inV (nV x) (B.map nV)) = _
    rw [in_nV' x B]
    have e : eqV (nV y) (nV x) = decide (x = y) := by
      show ((y : Int) == (x : Int)) = decide (x = y)
      rw [Bool.eq_iff_iff, beq_iff_eq, decide_eq_true_iff]
      (first | with_reducible assumption | lia | omega)
    rw [e]
    simp [List.mem_cons]
theorem srt_one : ∀ {a b : List Int}, a.Perm b → a.Pairwise (· ≤ ·) → b.Pairwise (· ≤ ·) → a = b
  | [], b, h, _, _ => (List.nil_perm.mp h).symm
  | x :: a, [], h, _, _ => by have := h.length_eq; simp at this
  | x :: a, y :: b, h, ha, hb => by
    have h1 := List.pairwise_cons.mp ha
    have h2 := List.pairwise_cons.mp hb
    have e : x = y := by
      have m1 : x ∈ y :: b := h.mem_iff.mp (List.mem_cons_self ..)
      have m2 : y ∈ x :: a := h.mem_iff.mpr (List.mem_cons_self ..)
      rcases List.mem_cons.mp m1 with e | e
      · exact e
      · rcases List.mem_cons.mp m2 with e' | e'
        · exact e'.symm
        · have := h1.1 y e'
          have := h2.1 x e
          (first | with_reducible assumption | lia | omega)
    subst e
    rw [srt_one (List.Perm.cons_inv h) h1.2 h2.2]
theorem srt_nV {E z : List Nat} {ms : List Int} (hp : ms.Perm (z.map fun x : Nat => (x : Int))) (hs : ms.Pairwise (· ≤ ·)) (h : z.Perm E) (hE : E.Pairwise (· < ·)) : ms.map V.int = E.map nV := by
  have e : ms = E.map fun x : Nat => (x : Int) := by
    refine srt_one (hp.trans (h.map _)) hs ?_
    rw [List.pairwise_map]
    exact hE.imp fun {a b} (q : a < b) => by (first | with_reducible assumption | lia | omega)
  rw [e, List.map_map]
  rfl
inductive Isp_ways_to_take (K : PySem.W.Frag) (C : Addr) (vs : List V) (H : Hp) (Q : VK) : Prop where
  | mk (n a : Nat) (h0 : vs = [.int (n : Int), .int (a : Int)]) (h1 : n ≤ 40) (h2 : a ≤ 41) (h3 : Q (.int (Cart.choose n a : Nat)) H) : Isp_ways_to_take K C vs H Q
noncomputable def sp_ways_to_take (K : PySem.W.Frag) (C : Addr) : Sp := fun vs H Q _ => Isp_ways_to_take K C vs H Q
theorem d_ways_to_take {f C : Addr} {fd : FuncData} (F : Fun K "ways_to_take" "ways_to_take" s_ways_to_take f fd) (T : Txt K mg C)  : FnOk P w K mg base CX0 1 f fd ["many", "taken"] (sp_ways_to_take K C) := by
  refine F.ok sc_ways_to_take (fun vs H Q E h => ?_) (fun cdv A outer s H vs Q E hr h => ?_)
  · obtain ⟨n, a, rfl, _⟩ := h
    rfl
  · obtain ⟨n, a, rfl, hn, ha, q⟩ := h
    refine ⟨_, (pss_cons (ps_set (i := 2) sc_ways_to_take.nd rfl (by first | exact Or.inl rfl | exact Or.inr rfl) pe_int)
      (pss_cons (ps_for PassesOwn.never rfl (pi_range1 rfl T.z_range (pa_cons (pv 1) pa_nil)) (pg_name (i := 3) sc_ways_to_take.nd rfl (by first | exact Or.inl rfl | exact Or.inr rfl))
        (pss_one (ps_set (i := 2) sc_ways_to_take.nd rfl (by first | exact Or.inl rfl | exact Or.inr rfl) (pe_op op_fdiv (pe_op op_mul (pv 2) (pe_op op_sub (pv 0) (pv 3))) (pe_op op_add (pv 3) pe_int)))))
      (pss_one (ps_ret (pv 2))))), ?_⟩
    refine ⟨_, rfl, _, rfl, (by (first | with_reducible assumption | lia | omega)), (by (first | with_reducible assumption | lia | omega)), for_range (lo := 0) (n := ((a : Nat) : Int).toNat)
      (fun i σ H2 => H2 = H ∧ ∃ v : Option V, σ = [some (.int (n : Int)), some (.int (a : Int)), some (.int (Cart.choose n i : Nat)), v]) ⟨rfl, none, (by rw [Cart.choose_zero]; rfl)⟩ ?_ ?_⟩
    · rintro i σ H2 hi ⟨rfl, v, rfl⟩
      have e0 : (0 : Int) + (i : Int) = i := by (first | with_reducible assumption | lia | omega)
      rw [e0]
      have hc := Cart.choose_small (k := i) hn
      refine ⟨_, rfl, _, rfl, _, rfl, _, _, rfl, rfl, _, _, rfl, rfl, .inl ⟨by (first | with_reducible assumption | lia | omega), by (first | with_reducible assumption | lia | omega)⟩, _, rfl, _, _, rfl, rfl, _, _, rfl, rfl, ⟨by (first | with_reducible assumption | lia | omega), by (first | with_reducible assumption | lia | omega)⟩, ?_⟩
      refine ⟨rfl, some (.int (i : Int)), ?_⟩
      have e1 : ((Cart.choose n i : Nat) : Int) * ((n : Int) - (i : Int)) = ((Cart.choose n i * (n - i) : Nat) : Int) := by
        rcases Nat.lt_or_ge n i with z | z
        · rw [Cart.choose_gt z]; simp
        · rw [Int.natCast_mul, Int.ofNat_sub z]
      have e2 : ((Cart.choose n i * (n - i) : Nat) : Int) / ((i : Int) + 1) = ((Cart.choose n (i + 1) : Nat) : Int) := by
        rw [← Cart.choose_div n i, Int.natCast_ediv]
        rfl
      try dsimp only [gName, List.set]
      rw [e1, e2]
    · rintro σ H2 ⟨rfl, v, rfl⟩
      rw [Int.toNat_natCast]
      exact ⟨_, rfl, q⟩
inductive IspN_many_in_part (n : Nat) (K : PySem.W.Frag) (C : Addr) (vs : List V) (H : Hp) (Q : VK) : Prop where
  | mk (a : Addr) (xs : List V) (f b : Nat) (top : Option Nat) (t : Cart.BT) (h0 : vs = [.ref a, .int (f : Int), .int (b : Int), oV top]) (h1 : SqL K H a xs) (h2 : (∀ x ∈ xs, plainV x = true)) (h3 : b - f ≤ 40) (h4 : b - f < n) (h5 : b ≤ 100) (h6 : Part xs f b top t) (h7 : ∀ H', Same H H' → Q (.int (Cart.many t : Nat)) H') : IspN_many_in_part n K C vs H Q
noncomputable def spN_many_in_part (n : Nat) (K : PySem.W.Frag) (C : Addr) : Sp := fun vs H Q _ => IspN_many_in_part n K C vs H Q
theorem spN0_many_in_part {K : PySem.W.Frag} {C : Addr} {vs : List V} {H : Hp} {Q : VK} {E : XK} : ¬ spN_many_in_part 0 K C vs H Q E := by
  rintro ⟨_, _, _, _, _, _, _, _, _, _, h, _⟩
  exact Nat.not_lt_zero _ h
noncomputable def sp_many_in_part (K : PySem.W.Frag) (C : Addr) : Sp := spN_many_in_part 41 K C
theorem d_many_in_part {f C : Addr} {fd : FuncData} (F : Fun K "many_in_part" "many_in_part" s_many_in_part f fd) (T : Txt K mg C) (hmf : mg "many_in_part" = some (.ref f)) (hkf : PySem.W.keepIn K (.ref f) = true) (hbf : Binds K fd ["tree", "first", "behind", "over"] []) (D_head_under : Def P w K mg base 1 "head_under" ["tree", "first", "behind", "over"] (sp_head_under K C)) (D_ways_to_take : Def P w K mg base 1 "ways_to_take" ["many", "taken"] (sp_ways_to_take K C)) : FnOk P w K mg base CX0 (1 + 41) f fd ["tree", "first", "behind", "over"] (sp_many_in_part K C) := by
  refine rec_ok (x := "many_in_part") (m := 1) (fun n => spN_many_in_part n K C) (fun _ _ _ _ => spN0_many_in_part) hmf hkf hbf (fun n D_many_in_part => ?_) 41
  refine F.ok sc_many_in_part (fun vs H Q E h => ?_) (fun cdv A outer s H vs Q E hr h => ?_)
  · obtain ⟨a, xs, f, b, top, t, rfl, _⟩ := h
    rfl
  · obtain ⟨a, xs, f, b, top, t, rfl, hS, hp, hN, hn, hb1, pt, q⟩ := h
    have hfb := pt.le
    have hsz := pt.size
    have hbx := pt.hi
    refine ⟨_, (pss_cons (ps_if (pt_cmpR op_eq (pv 1) (pv 2) (nomark _)) (pss_one (ps_ret pe_int)) pss_nil)
      (pss_cons (ps_set (i := 4) sc_many_in_part.nd rfl (by first | exact Or.inl rfl | exact Or.inr rfl) (pe_def D_head_under (hr.mono (by (first | with_reducible assumption | lia | omega))) (pa_cons (pv 0) (pa_cons (pv 1) (pa_cons (pv 2) (pa_cons (pv 3) pa_nil))))))
      (pss_cons (ps_set (i := 5) sc_many_in_part.nd rfl (by first | exact Or.inl rfl | exact Or.inr rfl) (pe_def D_many_in_part (hr.mono (by (first | with_reducible assumption | lia | omega))) (pa_cons (pv 0) (pa_cons (pv 1) (pa_cons (pv 4) (pa_cons (pv 4) pa_nil))))))
      (pss_cons (ps_set (i := 6) sc_many_in_part.nd rfl (by first | exact Or.inl rfl | exact Or.inr rfl) (pe_def D_many_in_part (hr.mono (by (first | with_reducible assumption | lia | omega))) (pa_cons (pv 0) (pa_cons (pe_op op_add (pv 4) pe_int) (pa_cons (pv 2) (pa_cons (pv 4) pa_nil))))))
      (pss_one (ps_ret (pe_op op_mulM (pe_op op_mulM (pe_def D_ways_to_take (hr.mono (by (first | with_reducible assumption | lia | omega))) (pa_cons (pe_op op_sub (pe_op op_sub (pv 2) (pv 1)) pe_int) (pa_cons (pe_op op_sub (pv 4) (pv 1)) pa_nil))) (pv 5)) (pv 6)))))))), ?_⟩
    refine ⟨_, rfl, _, rfl, rfl, _, rfl, ite2 (fun c => ?_) (fun c => ?_)⟩
    · have e : b - f = 0 := by
        have := V.int.inj (of_decide_eq_true c)
        (first | with_reducible assumption | lia | omega)
      cases t with
      | nil => exact q H (Same.refl H)
      | node x y =>
        have : x.size + y.size + 1 = b - f := hsz
        (first | with_reducible assumption | lia | omega)
    · cases t with
      | nil =>
        have : (0 : Nat) = b - f := hsz
        exact absurd (decide_eq_true (show V.int (f : Int) = V.int (b : Int) by rw [show f = b by (first | with_reducible assumption | lia | omega)])) c
      | node x y =>
        have hs : x.size + y.size + 1 = b - f := hsz
        obtain ⟨hF, px, py⟩ := pt.node
        obtain ⟨i, hi⟩ : ∃ i, i = f + x.size := ⟨_, rfl⟩
        rw [← hi] at hF px py
        have h1 := hF.lo
        have h2 := hF.hi
        refine ⟨_, rfl, _, rfl, _, rfl, _, rfl, a, xs, f, b, i, _, rfl, hS, hp, oV_plain top, hbx, hF, fun H1 s1 => ?_⟩
        try dsimp only [gName, List.set]
        refine ⟨_, rfl, _, rfl, _, rfl, _, rfl, a, xs, f, i, some i, x, rfl, s1.seq hS, hp, by (first | with_reducible assumption | lia | omega), by (first | with_reducible assumption | lia | omega), by (first | with_reducible assumption | lia | omega), px, fun H4 s4 => ?_⟩
        try dsimp only [gName, List.set]
        have s14 := s1.trans s4
        refine ⟨_, rfl, _, rfl, _, _, rfl, rfl, _, rfl, _, rfl, a, xs, i + 1, b, some i, y, rfl, s14.seq hS, hp, by (first | with_reducible assumption | lia | omega), by (first | with_reducible assumption | lia | omega), by (first | with_reducible assumption | lia | omega), py, fun H5 s5 => ?_⟩
        try dsimp only [gName, List.set]
        have s15 := s14.trans s5
        have e1 : (b : Int) - (f : Int) - 1 = ((x.size + y.size : Nat) : Int) := by (first | with_reducible assumption | lia | omega)
        have e2 : (i : Int) - (f : Int) = ((x.size : Nat) : Int) := by (first | with_reducible assumption | lia | omega)
        have c1 := Cart.choose_small (n := x.size + y.size) (k := x.size) (by (first | with_reducible assumption | lia | omega))
        have c2 := Cart.many_small (t := x) (by (first | with_reducible assumption | lia | omega))
        have c3 := Cart.many_small (t := y) (by (first | with_reducible assumption | lia | omega))
        refine ⟨_, rfl, _, rfl, _, _, rfl, rfl, _, _, rfl, rfl, _, rfl, _, rfl, _, _, rfl, rfl, x.size + y.size, x.size, ?_, by (first | with_reducible assumption | lia | omega), by (first | with_reducible assumption | lia | omega), _, rfl, _, _, rfl, rfl, ⟨by (first | with_reducible assumption | lia | omega), by (first | with_reducible assumption | lia | omega)⟩, _, rfl, _, _, rfl, rfl, ⟨?_, by (first | with_reducible assumption | lia | omega)⟩, ?_⟩
        · try dsimp only
          rw [e1, e2]
          rfl
        · rw [← Int.natCast_mul, Int.natAbs_natCast]
          have : Cart.choose (x.size + y.size) x.size * Cart.many x ≤ 2 ^ 40 * 2 ^ 160 := Nat.mul_le_mul c1 (Nat.le_of_lt c2)
          have e : (2 : Nat) ^ 40 * 2 ^ 160 < 2 ^ 250 := by decide
          (first | with_reducible assumption | lia | omega)
        · have q' := q _ s15
          have er : ((Cart.many (.node x y) : Nat) : Int) = ((Cart.choose (x.size + y.size) x.size : Nat) : Int) * ((Cart.many x : Nat) : Int) * ((Cart.many y : Nat) : Int) := by
            rw [← Int.natCast_mul, ← Int.natCast_mul, Nat.mul_assoc]
            rfl
          rw [er] at q'
          exact q'
inductive Isp_many_orders (K : PySem.W.Frag) (C : Addr) (vs : List V) (H : Hp) (Q : VK) : Prop where
  | mk (a : Addr) (t : Cart.BT) (h0 : vs = [.ref a]) (h1 : H a = some (.lst (bl t))) (h2 : 0 < t.size) (h3 : t.size ≤ 40) (h4 : ∀ H', Same H H' → Q (.int (Cart.many t : Nat)) H') : Isp_many_orders K C vs H Q
noncomputable def sp_many_orders (K : PySem.W.Frag) (C : Addr) : Sp := fun vs H Q _ => Isp_many_orders K C vs H Q
theorem d_many_orders {f C : Addr} {fd : FuncData} (F : Fun K "many_orders" "many_orders" s_many_orders f fd) (T : Txt K mg C) (D_check_tree : Def P w K mg base 44 "check_tree" ["some"] (sp_check_tree K C)) (D_many_in_part : Def P w K mg base 42 "many_in_part" ["tree", "first", "behind", "over"] (sp_many_in_part K C)) : FnOk P w K mg base CX0 45 f fd ["tree"] (sp_many_orders K C) := by
  refine F.ok sc_many_orders (fun vs H Q E h => ?_) (fun cdv A outer s H vs Q E hr h => ?_)
  · obtain ⟨a, t, rfl, _⟩ := h
    rfl
  · obtain ⟨a, t, rfl, ha, h1, h2, q⟩ := h
    have hbl := bl_len t
    refine ⟨_, (pss_cons (ps_expr (pe_def D_check_tree (hr.mono (by decide)) (pa_cons (pv 0) pa_nil)))
      (pss_one (ps_ret (pe_def D_many_in_part (hr.mono (by decide)) (pa_cons (pv 0) (pa_cons pe_int (pa_cons (pe_callB call_len_seq rfl T.z_len PySem.boot_len (pa_cons (pv 0) pa_nil)) (pa_cons pe_non pa_nil)))))))), ?_⟩
    refine ⟨_, rfl, a, t, rfl, ha, h1, h2, fun H1 s1 => ?_⟩
    have ha1 := s1 _ _ ha
    refine ⟨_, rfl, _, rfl, a, _, rfl, .inl (SqL.of ha1), a, bl t, 0, (bl t).length, none, t, rfl, SqL.of ha1, bl_plain t, by (first | with_reducible assumption | lia | omega), by (first | with_reducible assumption | lia | omega), by (first | with_reducible assumption | lia | omega), ?_, fun H3 s3 => q _ (s1.trans s3)⟩
    rw [hbl]
    exact .whole
inductive Isp_parting_at (K : PySem.W.Frag) (C : Addr) (vs : List V) (H : Hp) (Q : VK) : Prop where
  | mk (a : Addr) (E : List Nat) (m k : Nat) (h0 : vs = [.ref a, .int (m : Int), .int (k : Int)]) (h1 : SqL K H a (E.map nV)) (h2 : E.length ≤ 40) (h3 : k < Cart.choose E.length m) (h4 : ∀ (t l1 l2 : Addr) (H' : Hp), Same H H' → H' t = some (.tup [.ref l1, .ref l2]) → H' l1 = some (.lst ((Cart.part E m k).1.map nV)) → H' l2 = some (.lst ((Cart.part E m k).2.map nV)) → Q (.ref t) H') : Isp_parting_at K C vs H Q
noncomputable def sp_parting_at (K : PySem.W.Frag) (C : Addr) : Sp := fun vs H Q _ => Isp_parting_at K C vs H Q
theorem choose_le_of {n m k : Nat} (h : k < Cart.choose n m) : m ≤ n := by
  rcases Nat.lt_or_ge n m with z | z
  · rw [Cart.choose_gt z] at h
    (first | with_reducible assumption | lia | omega)
  · exact z
theorem d_parting_at {f C : Addr} {fd : FuncData} (F : Fun K "parting_at" "parting_at" s_parting_at f fd) (T : Txt K mg C) (D_ways_to_take : Def P w K mg base 1 "ways_to_take" ["many", "taken"] (sp_ways_to_take K C)) : FnOk P w K mg base CX0 2 f fd ["entries", "taken", "number"] (sp_parting_at K C) := by
  refine F.ok sc_parting_at (fun vs H Q E h => ?_) (fun cdv A outer s H vs Q E hr h => ?_)
  · obtain ⟨a, E, m, k, rfl, _⟩ := h
    rfl
  · obtain ⟨a, E, m, k, rfl, hS, hE, hk, q⟩ := h
    have hlm : (E.map nV).length = E.length := List.length_map _
    have hmE := choose_le_of hk
    refine ⟨_, (pss_cons (ps_set (i := 3) sc_parting_at.nd rfl (by first | exact Or.inl rfl | exact Or.inr rfl) (pe_lst pa_nil))
      (pss_cons (ps_set (i := 4) sc_parting_at.nd rfl (by first | exact Or.inl rfl | exact Or.inr rfl) (pe_lst pa_nil))
      (pss_cons (ps_for PassesOwn.never rfl (pi_enum rfl T.z_enumerate (pa_cons (pv 0) pa_nil)) (pg_tup rfl (pgs_cons (pg_name (i := 5) sc_parting_at.nd rfl (by first | exact Or.inl rfl | exact Or.inr rfl)) (pgs_cons (pg_name (i := 6) sc_parting_at.nd rfl (by first | exact Or.inl rfl | exact Or.inr rfl)) pgs_nil)))
        (pss_cons (ps_set (i := 7) sc_parting_at.nd rfl (by first | exact Or.inl rfl | exact Or.inr rfl) (pe_def D_ways_to_take (hr.mono (by decide)) (pa_cons (pe_op op_sub (pe_op op_sub (pe_callB call_len_seq rfl T.z_len PySem.boot_len (pa_cons (pv 0) pa_nil)) (pv 5)) pe_int) (pa_cons (pe_op op_sub (pv 1) (pe_callB call_len_seq rfl T.z_len PySem.boot_len (pa_cons (pv 3) pa_nil))) pa_nil))))
      (pss_one (ps_if (pt_cmpR op_lt (pv 2) (pv 7) (nomark _)) (pss_one (ps_expr (pe_bm PySem.F.plainAttrs_list PySem.F.slot_list_append PySem.F.type_list_append mt_append (pv 4) (pa_cons (pv 6) pa_nil)))) (pss_cons (ps_aug (i := 2) sc_parting_at.nd rfl (by first | exact Or.inl rfl | exact Or.inr rfl) (pv 7) ip_sub)
      (pss_one (ps_expr (pe_bm PySem.F.plainAttrs_list PySem.F.slot_list_append PySem.F.type_list_append mt_append (pv 3) (pa_cons (pv 6) pa_nil)))))))))
      (pss_one (ps_ret (pe_tup (pa_cons (pv 3) (pa_cons (pv 4) pa_nil)))))))), ?_⟩
    refine ⟨(by show 0 ≤ sizeLine; decide), fun l1 hl1 => ?_⟩
    have s1 := same_new hl1 (.lst [])
    refine ⟨(by show 0 ≤ sizeLine; decide), fun l2 hl2 => ?_⟩
    have s2 := s1.trans (same_new hl2 (.lst []))
    have h12 : l1 ≠ l2 := ne_of_none upd_same hl2
    have hl2H := s1.free hl2
    try dsimp only [gName, List.set]
    refine ⟨_, rfl, a, rfl, ⟨_, s2.seq hS⟩, for_enum (K := K) (a := a) (xs := E.map nV)
      (fun i σ H2 => ∃ (v5 v6 v7 : Option V) (x y : List Nat) (m' k' : Nat), σ = [some (.ref a), some (.int (m : Int)), some (.int (k' : Int)), some (.ref l1), some (.ref l2), v5, v6, v7] ∧ Same H H2 ∧ H2 l1 = some (.lst (x.map nV)) ∧ H2 l2 = some (.lst (y.map nV)) ∧
        k' < Cart.choose (E.length - i) m' ∧ x.length + m' = m ∧ y.length ≤ i ∧ x ++ (Cart.part (E.drop i) m' k').1 = (Cart.part E m k).1 ∧ y ++ (Cart.part (E.drop i) m' k').2 = (Cart.part E m k).2)
      ⟨_, _, _, [], [], m, k, rfl, s2, ?_, upd_same, hk, by rw [List.length_nil]; (first | with_reducible assumption | lia | omega), Nat.zero_le _, rfl, rfl⟩ (fun i σ H2 _ ⟨_, _, _, _, _, _, _, _, t2, _⟩ => t2.seq hS) ?_ ?_⟩
    · rw [upd_ne h12]; exact upd_same
    · rintro i z σ H2 t hz ⟨v5, v6, v7, x, y, m', k', rfl, t2, e1, e2, hk', hm', hy, px, py⟩ ht
      have hi : i < E.length := by
        have := (List.getElem?_eq_some_iff.mp hz).1
        (first | with_reducible assumption | lia | omega)
      have ez : z = nV E[i] := by
        rw [List.getElem?_map, List.getElem?_eq_getElem hi] at hz
        exact (Option.some.inj hz).symm
      subst ez
      have s3 := same_new ht (.tup [.int (i : Int), nV E[i]])
      have hd : E.drop i = E[i] :: E.drop (i + 1) := List.drop_eq_getElem_cons hi
      have hdl : (E.drop (i + 1)).length = E.length - i - 1 := by rw [List.length_drop]; (first | with_reducible assumption | lia | omega)
      refine ⟨t, _, rfl, SqT.of upd_same, rfl, _, _, rfl, _, _, rfl, rfl, ?_⟩
      try dsimp only [gName, List.set]
      have t3 := t2.trans s3
      have e13 := s3 _ _ e1
      have e23 := s3 _ _ e2
      refine ⟨_, rfl, a, _, rfl, .inl (t3.seq hS), _, rfl, _, _, rfl, rfl, _, _, rfl, rfl, _, rfl, _, rfl, l1, _, rfl, .inl (SqL.of e13), _, _, rfl, rfl, E.length - i - 1, m', ?_, by (first | with_reducible assumption | lia | omega), by (first | with_reducible assumption | lia | omega), ?_⟩
      · try dsimp only
        rw [hlm, List.length_map]
        have a1 : (E.length : Int) - (i : Int) - 1 = ((E.length - i - 1 : Nat) : Int) := by (first | with_reducible assumption | lia | omega)
        have a2 : (m : Int) - (x.length : Int) = ((m' : Nat) : Int) := by (first | with_reducible assumption | lia | omega)
        rw [a1, a2]
        rfl
      try dsimp only [gName, List.set]
      have hpart : Cart.part (E.drop i) m' k' = if k' < Cart.choose (E.length - i - 1) m' then ((Cart.part (E.drop (i + 1)) m' k').1, E[i] :: (Cart.part (E.drop (i + 1)) m' k').2) else (E[i] :: (Cart.part (E.drop (i + 1)) (m' - 1) (k' - Cart.choose (E.length - i - 1) m')).1, (Cart.part (E.drop (i + 1)) (m' - 1) (k' - Cart.choose (E.length - i - 1) m')).2) := by
        rw [hd, Cart.part, hdl]
      have en : E.length - (i + 1) = E.length - i - 1 := by (first | with_reducible assumption | lia | omega)
      refine ⟨_, rfl, _, rfl, _, _, rfl, rfl, _, rfl, ite2 (fun c => ?_) (fun c => ?_)⟩
      · have c2 : k' < Cart.choose (E.length - i - 1) m' := by
          have : (k' : Int) < ((Cart.choose (E.length - i - 1) m' : Nat) : Int) := of_decide_eq_true c
          (first | with_reducible assumption | lia | omega)
        rw [if_pos c2] at hpart
        rw [hpart] at px py
        refine ⟨_, rfl, .inl ⟨rfl, _, SqL.of e23⟩, _, rfl, l2, _, _, rfl, rfl, e23, small1000 (by rw [List.length_map]; (first | with_reducible assumption | lia | omega)), ?_⟩
        refine ⟨_, _, _, x, y ++ [E[i]], m', k', rfl, fun c o w => ?_, ?_, ?_, by rw [en]; exact c2, hm', by rw [List.length_append, List.length_singleton]; (first | with_reducible assumption | lia | omega), px, ?_⟩
        · rw [upd_ne (ne_of_none w hl2H)]; exact t3 _ _ w
        · rw [upd_ne h12]; exact e13
        · rw [upd_same, List.map_append]; rfl
        · rw [List.append_assoc]; exact py
      · have c2 : ¬ k' < Cart.choose (E.length - i - 1) m' := fun z => c (decide_eq_true (by (first | with_reducible assumption | lia | omega)))
        rw [if_neg c2] at hpart
        rw [hpart] at px py
        obtain ⟨m2, hm2⟩ : ∃ m2, m' = m2 + 1 := by
          cases m' with
          | zero =>
            rw [Cart.choose_zero] at hk' c2
            exact absurd hk' c2
          | succ m2 => exact ⟨m2, rfl⟩
        subst hm2
        have hk2 : k' < Cart.choose (E.length - i - 1) m2 + Cart.choose (E.length - i - 1) (m2 + 1) := by
          have e : E.length - i = E.length - i - 1 + 1 := by (first | with_reducible assumption | lia | omega)
          rw [e] at hk'
          exact hk'
        refine ⟨_, rfl, _, rfl, _, _, rfl, rfl, ?_⟩
        try dsimp only [gName, List.set]
        refine ⟨_, rfl, .inl ⟨rfl, _, SqL.of e13⟩, _, rfl, l1, _, _, rfl, rfl, e13, small1000 (by rw [List.length_map]; (first | with_reducible assumption | lia | omega)), ?_⟩
        refine ⟨some (.int (i : Int)), some (nV E[i]), some (.int ((Cart.choose (E.length - i - 1) (m2 + 1) : Nat) : Int)), x ++ [E[i]], y, m2, k' - Cart.choose (E.length - i - 1) (m2 + 1), ?_, fun c o w => ?_, ?_, ?_, by rw [en]; (first | with_reducible assumption | lia | omega), by rw [List.length_append, List.length_singleton]; (first | with_reducible assumption | lia | omega), by (first | with_reducible assumption | lia | omega), ?_, py⟩
        · have e : ((k' - Cart.choose (E.length - i - 1) (m2 + 1) : Nat) : Int) = (k' : Int) - ((Cart.choose (E.length - i - 1) (m2 + 1) : Nat) : Int) := by (first | with_reducible assumption | lia | omega)
          rw [e]
        · rw [upd_ne (ne_of_none w hl1)]; exact t3 _ _ w
        · rw [upd_same, List.map_append]; rfl
        · rw [upd_ne h12.symm]; exact e23
        · rw [List.append_assoc]; exact px
    · rintro σ H2 ⟨v5, v6, v7, x, y, m', k', rfl, t2, e1, e2, hk', hm', hy, px, py⟩
      rw [hlm, List.drop_of_length_le (Nat.le_refl _)] at px py
      have px' : x = (Cart.part E m k).1 := by rw [← px]; exact (List.append_nil x).symm
      have py' : y = (Cart.part E m k).2 := by rw [← py]; exact (List.append_nil y).symm
      rw [px'] at e1
      rw [py'] at e2
      refine ⟨_, rfl, _, rfl, (by show 2 ≤ sizeLine; decide), fun t ht => ?_⟩
      have s3 := same_new ht (.tup [.ref l1, .ref l2])
      exact q t l1 l2 _ (t2.trans s3) upd_same (s3 _ _ e1) (s3 _ _ e2)
inductive Isp_parting_number (K : PySem.W.Frag) (C : Addr) (vs : List V) (H : Hp) (Q : VK) : Prop where
  | mk (a b : Addr) (x y E : List Nat) (h0 : vs = [.ref a, .ref b]) (h1 : H a = some (.lst (x.map nV))) (h2 : H b = some (.lst (y.map nV))) (h3 : (x ++ y).Perm E) (h4 : E.Pairwise (· < ·)) (h5 : E.length ≤ 40) (h6 : ∀ H', Same H H' → Q (.int (Cart.pnum E x x.length : Nat)) H') : Isp_parting_number K C vs H Q
noncomputable def sp_parting_number (K : PySem.W.Frag) (C : Addr) : Sp := fun vs H Q _ => Isp_parting_number K C vs H Q
theorem d_parting_number {f C : Addr} {fd : FuncData} (F : Fun K "parting_number" "parting_number" s_parting_number f fd) (T : Txt K mg C) (D_ways_to_take : Def P w K mg base 1 "ways_to_take" ["many", "taken"] (sp_ways_to_take K C)) : FnOk P w K mg base CX0 2 f fd ["ahead", "rest"] (sp_parting_number K C) := by
  refine F.ok sc_parting_number (fun vs H Q E h => ?_) (fun cdv A outer s H vs Q E hr h => ?_)
  · obtain ⟨a, b, x, y, E, rfl, _⟩ := h
    rfl
  · obtain ⟨a, b, x, y, E, rfl, ha, hb, hp, hs, hE, q⟩ := h
    have hl := hp.length_eq
    rw [List.length_append] at hl
    have nd := Cart.sort_nd hs
    refine ⟨_, (pss_cons (ps_set (i := 2) sc_parting_number.nd rfl (by first | exact Or.inl rfl | exact Or.inr rfl) (pe_callB call_sortedL rfl T.z_sorted PyProof.Rows.boot_sorted (pa_cons (pe_op op_cat (pv 0) (pv 1)) pa_nil)))
      (pss_cons (ps_set (i := 3) sc_parting_number.nd rfl (by first | exact Or.inl rfl | exact Or.inr rfl) (pe_callB call_len_seq rfl T.z_len PySem.boot_len (pa_cons (pv 0) pa_nil)))
      (pss_cons (ps_set (i := 4) sc_parting_number.nd rfl (by first | exact Or.inl rfl | exact Or.inr rfl) pe_int)
      (pss_cons (ps_for PassesOwn.never rfl (pi_enum rfl T.z_enumerate (pa_cons (pv 2) pa_nil)) (pg_tup rfl (pgs_cons (pg_name (i := 5) sc_parting_number.nd rfl (by first | exact Or.inl rfl | exact Or.inr rfl)) (pgs_cons (pg_name (i := 6) sc_parting_number.nd rfl (by first | exact Or.inl rfl | exact Or.inr rfl)) pgs_nil)))
        (pss_one (ps_if (pt_cmpR op_in_seq (pv 6) (pv 0) (by with_unfolding_all rfl)) (pss_cons (ps_aug (i := 4) sc_parting_number.nd rfl (by first | exact Or.inl rfl | exact Or.inr rfl) (pe_def D_ways_to_take (hr.mono (by decide)) (pa_cons (pe_op op_sub (pe_op op_sub (pe_callB call_len_seq rfl T.z_len PySem.boot_len (pa_cons (pv 2) pa_nil)) (pv 5)) pe_int) (pa_cons (pv 3) pa_nil))) ip_add)
      (pss_one (ps_aug (i := 3) sc_parting_number.nd rfl (by first | exact Or.inl rfl | exact Or.inr rfl) pe_int ip_sub))) pss_nil)))
      (pss_one (ps_ret (pv 4))))))), ?_⟩
    refine ⟨_, rfl, _, rfl, a, b, _, _, rfl, rfl, ha, hb, small (by rw [List.length_map, List.length_map]; (first | with_reducible assumption | lia | omega)), fun c hc => ?_⟩
    have s1 := same_new hc (.lst (x.map nV ++ y.map nV))
    have em : x.map nV ++ y.map nV = ((x ++ y).map fun z : Nat => (z : Int)).map V.int := by rw [← List.map_append, ints_nV]
    refine ⟨c, (x ++ y).map fun z : Nat => (z : Int), rfl, SqL.of (by rw [← em]; exact upd_same), (by rw [List.length_map, List.length_append]; (first | with_reducible assumption | lia | omega)), fun en ms hen hperm hpw => ?_⟩
    rw [srt_nV hperm hpw hp hs]
    have s2 := s1.trans (same_new hen (.lst (E.map nV)))
    have een : (upd (upd H c (.lst (x.map nV ++ y.map nV))) en (.lst (E.map nV))) en = _ := upd_same
    generalize upd (upd H c (.lst (x.map nV ++ y.map nV))) en (.lst (E.map nV)) = H1 at s2 een ⊢
    try dsimp only [gName, List.set]
    have hlm : (E.map nV).length = E.length := List.length_map _
    have cx : (E.filter (· ∈ x)).length = x.length := (Cart.perm_filter_in hp nd).1.length_eq
    refine ⟨_, rfl, a, _, rfl, .inl (SqL.of (s2 _ _ ha)), ?_⟩
    try dsimp only [gName, List.set]
    refine ⟨_, rfl, en, rfl, ⟨_, SqL.of een⟩, for_enum (K := K) (a := en) (xs := E.map nV)
      (fun i σ H2 => ∃ (v5 v6 : Option V) (w' k : Nat), σ = [some (.ref a), some (.ref b), some (.ref en), some (.int (w' : Int)), some (.int (k : Int)), v5, v6] ∧ Same H1 H2 ∧ w' = ((E.drop i).filter (· ∈ x)).length ∧ k + Cart.pnum (E.drop i) x w' = Cart.pnum E x x.length)
      ⟨none, none, x.length, 0, (by rw [List.length_map]; rfl), Same.refl _, cx.symm, by rw [Nat.zero_add]; rfl⟩ (fun i σ H2 _ ⟨_, _, _, _, _, t2, _⟩ => SqL.of (t2 _ _ een)) ?_ ?_⟩
    · rintro i z σ H2 t hz ⟨v5, v6, w', k, rfl, t2, hw, hk⟩ ht
      have hi : i < E.length := by
        have := (List.getElem?_eq_some_iff.mp hz).1
        (first | with_reducible assumption | lia | omega)
      have ez : z = nV E[i] := by
        rw [List.getElem?_map, List.getElem?_eq_getElem hi] at hz
        exact (Option.some.inj hz).symm
      subst ez
      have s3 := same_new ht (.tup [.int (i : Int), nV E[i]])
      have t3 := t2.trans s3
      have hd : E.drop i = E[i] :: E.drop (i + 1) := List.drop_eq_getElem_cons hi
      have hdl : (E.drop (i + 1)).length = E.length - i - 1 := by rw [List.length_drop]; (first | with_reducible assumption | lia | omega)
      have hwle : w' ≤ 40 := by
        have := List.length_filter_le (· ∈ x) (E.drop i)
        rw [List.length_drop] at this
        (first | with_reducible assumption | lia | omega)
      refine ⟨t, _, rfl, SqT.of upd_same, rfl, _, _, rfl, _, _, rfl, rfl, ?_⟩
      try dsimp only [gName, List.set]
      have ha3 := t3 _ _ (s2 _ _ ha)
      refine ⟨_, rfl, _, rfl, a, _, rfl, .inl (SqL.of ha3), rfl, nV_all _, _, rfl, ?_⟩
      rw [hd] at hw hk
      have ein : (if (false = true) then !inV (nV E[i]) (x.map nV) else inV (nV E[i]) (x.map nV)) = decide (E[i] ∈ x) := by
        rw [if_neg (by decide), in_nV']
      try rw [ein]
      try rw [in_nV']
      refine ite2 (fun c => ?_) (fun c => ?_)
      · have c2 : E[i] ∈ x := of_decide_eq_true c
        rw [List.filter_cons, if_pos (by simpa using c2), List.length_cons] at hw
        rw [Cart.pnum, if_pos c2, hdl] at hk
        refine ⟨_, rfl, _, rfl, en, _, rfl, .inl (SqL.of (t3 _ _ een)), _, rfl, _, _, rfl, rfl, _, _, rfl, rfl, _, rfl, E.length - i - 1, w', ?_, by (first | with_reducible assumption | lia | omega), by (first | with_reducible assumption | lia | omega), _, _, rfl, rfl, ?_⟩
        · try dsimp only
          rw [hlm]
          have a1 : (E.length : Int) - (i : Int) - 1 = ((E.length - i - 1 : Nat) : Int) := by (first | with_reducible assumption | lia | omega)
          rw [a1]
          rfl
        try dsimp only [gName, List.set]
        refine ⟨_, rfl, _, _, rfl, rfl, ?_⟩
        try dsimp only [gName, List.set]
        refine ⟨some (.int (i : Int)), some (nV E[i]), w' - 1, k + Cart.choose (E.length - i - 1) w', ?_, t3, by (first | with_reducible assumption | lia | omega), by (first | with_reducible assumption | lia | omega)⟩
        have e1 : ((w' - 1 : Nat) : Int) = (w' : Int) - 1 := by (first | with_reducible assumption | lia | omega)
        have e2 : ((k + Cart.choose (E.length - i - 1) w' : Nat) : Int) = (k : Int) + ((Cart.choose (E.length - i - 1) w' : Nat) : Int) := by (first | with_reducible assumption | lia | omega)
        rw [e1, e2]
      · have c2 : ¬ E[i] ∈ x := fun z => c (decide_eq_true z)
        rw [List.filter_cons, if_neg (by simpa using c2)] at hw
        rw [Cart.pnum, if_neg c2] at hk
        exact ⟨_, _, w', k, rfl, t3, hw, hk⟩
    · rintro σ H2 ⟨v5, v6, w', k, rfl, t2, hw, hk⟩
      rw [hlm, List.drop_of_length_le (Nat.le_refl _)] at hk
      have hk' : k = Cart.pnum E x x.length := hk
      subst hk'
      exact ⟨_, rfl, q _ (s2.trans t2)⟩
inductive IspN_order_in_part (n : Nat) (K : PySem.W.Frag) (C : Addr) (vs : List V) (H : Hp) (Q : VK) : Prop where
  | mk (a b : Addr) (xs : List V) (f k : Nat) (top : Option Nat) (t : Cart.BT) (E : List Nat) (h0 : vs = [.ref a, .int (f : Int), oV top, .ref b, .int (k : Int)]) (h1 : H a = some (.lst xs)) (h2 : (∀ x ∈ xs, plainV x = true)) (h3 : H b = some (.lst (E.map nV))) (h4 : E.length ≤ 40) (h5 : E.length < n) (h6 : f + E.length ≤ 100) (h7 : Part xs f (f + E.length) top t) (h8 : E.Pairwise (· < ·)) (h9 : k < Cart.many t) (h10 : ∀ (l : Addr) (H' : Hp), Same H H' → H l = none → H' l = some (.lst ((Cart.ord t E k).map nV)) → Q (.ref l) H') : IspN_order_in_part n K C vs H Q
noncomputable def spN_order_in_part (n : Nat) (K : PySem.W.Frag) (C : Addr) : Sp := fun vs H Q _ => IspN_order_in_part n K C vs H Q
theorem spN0_order_in_part {K : PySem.W.Frag} {C : Addr} {vs : List V} {H : Hp} {Q : VK} {E : XK} : ¬ spN_order_in_part 0 K C vs H Q E := by
  rintro ⟨_, _, _, _, _, _, _, _, _, _, _, _, _, h, _⟩
  exact Nat.not_lt_zero _ h
noncomputable def sp_order_in_part (K : PySem.W.Frag) (C : Addr) : Sp := spN_order_in_part 41 K C
theorem eqLs_nil (xs : List V) : eqLs xs [] = decide (xs.length = 0) := by
  unfold eqLs
  by_cases h : xs.length = 0
  · have : xs = [] := List.length_eq_zero_iff.mp h
    subst this
    rfl
  · rw [decide_eq_false h, decide_eq_false (show ¬ xs.length = ([] : List V).length from h), Bool.false_and]
theorem cut_one (e : Nat) (E : List Nat) : cutV ((e :: E).map nV) (some 1) none = E.map nV := by
  have h := cut_hi ((e :: E).map fun x : Nat => (x : Int)) (k := 1) (by decide) (by rw [List.length_map, List.length_cons]; (first | with_reducible assumption | lia | omega))
  rw [← ints_nV] at h
  rw [h, ← List.map_drop, ← ints_nV]
  rfl
theorem d_order_in_part {f C : Addr} {fd : FuncData} (F : Fun K "order_in_part" "order_in_part" s_order_in_part f fd) (T : Txt K mg C) (hmf : mg "order_in_part" = some (.ref f)) (hkf : PySem.W.keepIn K (.ref f) = true) (hbf : Binds K fd ["tree", "first", "over", "entries", "number"] []) (D_head_under : Def P w K mg base 1 "head_under" ["tree", "first", "behind", "over"] (sp_head_under K C)) (D_many_in_part : Def P w K mg base 42 "many_in_part" ["tree", "first", "behind", "over"] (sp_many_in_part K C)) (D_parting_at : Def P w K mg base 2 "parting_at" ["entries", "taken", "number"] (sp_parting_at K C)) : FnOk P w K mg base CX0 (42 + 41) f fd ["tree", "first", "over", "entries", "number"] (sp_order_in_part K C) := by
  refine rec_ok (x := "order_in_part") (m := 42) (fun n => spN_order_in_part n K C) (fun _ _ _ _ => spN0_order_in_part) hmf hkf hbf (fun n D_order_in_part => ?_) 41
  refine F.ok sc_order_in_part (fun vs H Q E h => ?_) (fun cdv A outer s H vs Q E hr h => ?_)
  · obtain ⟨a, b, xs, f, k, top, t, E, rfl, _⟩ := h
    rfl
  · obtain ⟨a, b, xs, f, k, top, t, E, rfl, ha, hp, hb, hE, hn, hfe, pt, hs, hk, q⟩ := h
    have hsz := pt.size
    have hbx := pt.hi
    refine ⟨_, (pss_cons (ps_if (pt_cmpR (op_eqS hr.units0) (pv 3) (pe_lst pa_nil) (nomark _)) (pss_one (ps_ret (pe_lst pa_nil))) pss_nil)
      (pss_cons (ps_set (i := 5) sc_order_in_part.nd rfl (by first | exact Or.inl rfl | exact Or.inr rfl) (pe_op op_add (pv 1) (pe_callB call_len_seq rfl T.z_len PySem.boot_len (pa_cons (pv 3) pa_nil))))
      (pss_cons (ps_set (i := 6) sc_order_in_part.nd rfl (by first | exact Or.inl rfl | exact Or.inr rfl) (pe_def D_head_under (hr.mono (by (first | with_reducible assumption | lia | omega))) (pa_cons (pv 0) (pa_cons (pv 1) (pa_cons (pv 5) (pa_cons (pv 2) pa_nil))))))
      (pss_cons (ps_set (i := 7) sc_order_in_part.nd rfl (by first | exact Or.inl rfl | exact Or.inr rfl) (pe_def D_many_in_part (hr.mono (by (first | with_reducible assumption | lia | omega))) (pa_cons (pv 0) (pa_cons (pv 1) (pa_cons (pv 6) (pa_cons (pv 6) pa_nil))))))
      (pss_cons (ps_set (i := 8) sc_order_in_part.nd rfl (by first | exact Or.inl rfl | exact Or.inr rfl) (pe_def D_many_in_part (hr.mono (by (first | with_reducible assumption | lia | omega))) (pa_cons (pv 0) (pa_cons (pe_op op_add (pv 6) pe_int) (pa_cons (pv 5) (pa_cons (pv 6) pa_nil))))))
      (pss_cons (ps_set (i := 9) sc_order_in_part.nd rfl (by first | exact Or.inl rfl | exact Or.inr rfl) (pe_def D_parting_at (hr.mono (by (first | with_reducible assumption | lia | omega))) (pa_cons (pe_slice sl_list (pv 3) (po_some pe_int) po_none) (pa_cons (pe_op op_sub (pv 6) (pv 1)) (pa_cons (pe_op op_fdivM (pv 4) (pe_op op_mulM (pv 7) (pv 8))) pa_nil)))))
      (pss_cons (ps_set (i := 10) sc_order_in_part.nd rfl (by first | exact Or.inl rfl | exact Or.inr rfl) (pe_def D_order_in_part (hr.mono (by (first | with_reducible assumption | lia | omega))) (pa_cons (pv 0) (pa_cons (pv 1) (pa_cons (pv 6) (pa_cons (pe_ix ix_tup (pv 9) pe_int (fun _ _ => rfl)) (pa_cons (pe_op op_mod (pe_op op_fdivM (pv 4) (pv 8)) (pv 7)) pa_nil)))))))
      (pss_cons (ps_set (i := 11) sc_order_in_part.nd rfl (by first | exact Or.inl rfl | exact Or.inr rfl) (pe_def D_order_in_part (hr.mono (by (first | with_reducible assumption | lia | omega))) (pa_cons (pv 0) (pa_cons (pe_op op_add (pv 6) pe_int) (pa_cons (pv 6) (pa_cons (pe_ix ix_tup (pv 9) pe_int (fun _ _ => rfl)) (pa_cons (pe_op op_mod (pv 4) (pv 8)) pa_nil)))))))
      (pss_one (ps_ret (pe_op op_cat (pe_op op_cat (pv 10) (pe_lst (pa_cons (pe_ix ix_list (pv 3) pe_int (fun _ _ => rfl)) pa_nil))) (pv 11)))))))))))), ?_⟩
    refine ⟨_, rfl, (by show 0 ≤ sizeLine; decide), fun l0 hl0 => ?_⟩
    have s0 := same_new hl0 (.lst [])
    refine ⟨b, l0, _, _, rfl, rfl, .inl ⟨SqL.of (s0 _ _ hb), SqL.of upd_same⟩, nV_all _, rfl, _, rfl, ?_⟩
    rw [eqLs_nil, List.length_map]
    generalize upd H l0 (.lst []) = H0 at s0 ⊢
    refine ite2 (fun c => ?_) (fun c => ?_)
    · have hE0 : E.length = 0 := of_decide_eq_true c
      cases t with
      | nil => exact ⟨(by show 0 ≤ sizeLine; decide), fun l hl => q l _ (s0.trans (same_new hl _)) (s0.free hl) upd_same⟩
      | node x y =>
        have : x.size + y.size + 1 = f + E.length - f := hsz
        (first | with_reducible assumption | lia | omega)
    · have hE0 : ¬ E.length = 0 := fun z => c (decide_eq_true z)
      cases t with
      | nil =>
        have : (0 : Nat) = f + E.length - f := hsz
        (first | with_reducible assumption | lia | omega)
      | node x y =>
      cases E with
      | nil => exact absurd rfl hE0
      | cons e E =>
      have hs' : x.size + y.size + 1 = f + (e :: E).length - f := hsz
      have hEl : (e :: E).length = x.size + y.size + 1 := by (first | with_reducible assumption | lia | omega)
      have hEl' : E.length = x.size + y.size := Nat.succ.inj hEl
      obtain ⟨hmin, hsE⟩ := List.pairwise_cons.mp hs
      obtain ⟨hF, px, py⟩ := pt.node
      have pl := Cart.many_pos' x
      have pr := Cart.many_pos' y
      have hk' : k < Cart.choose (x.size + y.size) x.size * (Cart.many x * Cart.many y) := hk
      have hkp : k / (Cart.many x * Cart.many y) < Cart.choose E.length x.size := by
        rw [hEl', Nat.div_lt_iff_lt_mul (Nat.mul_pos pl pr)]
        exact hk'
      have pp := Cart.part_ok E x.size _ hkp
      have hyl : (Cart.part E x.size (k / (Cart.many x * Cart.many y))).2.length = y.size := by
        have := pp.perm.length_eq
        rw [List.length_append, pp.len] at this
        (first | with_reducible assumption | lia | omega)
      obtain ⟨i, hi⟩ : ∃ i, i = f + x.size := ⟨_, rfl⟩
      rw [← hi] at hF px py
      have h1 := hF.lo
      have h2 := hF.hi
      have ha0 := s0 _ _ ha
      have hb0 := s0 _ _ hb
      refine ⟨_, rfl, _, rfl, b, _, rfl, .inl (SqL.of hb0), _, _, rfl, rfl, ?_⟩
      have eb : (f : Int) + ((((e :: E).map nV).length : Nat) : Int) = ((f + (e :: E).length : Nat) : Int) := by rw [List.length_map]; (first | with_reducible assumption | lia | omega)
      try dsimp only [gName, List.set]
      rw [eb]
      refine ⟨_, rfl, _, rfl, _, rfl, _, rfl, a, xs, f, f + (e :: E).length, i, _, rfl, SqL.of ha0, hp, oV_plain top, hbx, hF, fun H1 s1 => ?_⟩
      try dsimp only [gName, List.set]
      refine ⟨_, rfl, _, rfl, _, rfl, _, rfl, a, xs, f, i, some i, x, rfl, SqL.of (s1 _ _ ha0), hp, by (first | with_reducible assumption | lia | omega), by (first | with_reducible assumption | lia | omega), by (first | with_reducible assumption | lia | omega), px, fun H2 s2 => ?_⟩
      try dsimp only [gName, List.set]
      have s12 := s1.trans s2
      refine ⟨_, rfl, _, rfl, _, _, rfl, rfl, _, rfl, _, rfl, a, xs, i + 1, f + (e :: E).length, some i, y, rfl, SqL.of (s12 _ _ ha0), hp, by (first | with_reducible assumption | lia | omega), by (first | with_reducible assumption | lia | omega), by (first | with_reducible assumption | lia | omega), py, fun H3 s3 => ?_⟩
      try dsimp only [gName, List.set]
      have s13 := s12.trans s3
      have ha3 := s13 _ _ ha0
      have hb3 := s13 _ _ hb0
      have c2 := Cart.many_small (t := x) (by (first | with_reducible assumption | lia | omega))
      have c3 := Cart.many_small (t := y) (by (first | with_reducible assumption | lia | omega))
      have c4 := Cart.many_two (l := x) (r := y) (by (first | with_reducible assumption | lia | omega))
      have p4 := Nat.mul_pos pl pr
      refine ⟨_, rfl, _, rfl, b, _, rfl, SqL.of hb3, fun sl hsl => ?_⟩
      rw [cut_one]
      have s4 := same_new hsl (.lst (E.map nV))
      refine ⟨_, rfl, _, rfl, _, _, rfl, rfl, _, rfl, _, rfl, _, rfl, _, _, rfl, rfl, ⟨by (first | with_reducible assumption | lia | omega), by (first | with_reducible assumption | lia | omega)⟩, _, _, rfl, rfl, ?_, sl, E, x.size, k / (Cart.many x * Cart.many y), ?_, SqL.of upd_same, by (first | with_reducible assumption | lia | omega), hkp, fun pt_ l1 l2 H5 s5 ept e1 e2 => ?_⟩
      · try dsimp only
        rw [← Int.natCast_mul]
        exact ⟨by show (0 : Int) < _; (first | with_reducible assumption | lia | omega), by show _ < (2 : Int) ^ 200; (first | with_reducible assumption | lia | omega)⟩
      · try dsimp only
        have a1 : (i : Int) - (f : Int) = ((x.size : Nat) : Int) := by (first | with_reducible assumption | lia | omega)
        rw [a1, ← Int.natCast_mul, ← Int.natCast_ediv]
        rfl
      generalize hpx : (Cart.part E x.size (k / (Cart.many x * Cart.many y))).1 = ex at e1 pp
      generalize hpy : (Cart.part E x.size (k / (Cart.many x * Cart.many y))).2 = ey at e2 pp hyl
      try dsimp only [gName, List.set]
      have s45 := s4.trans s5
      have ha5 := s45 _ _ ha3
      have hb5 := s45 _ _ hb3
      have z0 : atI [V.ref l1, V.ref l2] 0 = some (V.ref l1) := rfl
      have z1 : atI [V.ref l1, V.ref l2] 1 = some (V.ref l2) := rfl
      have hxl := pp.len
      refine ⟨_, rfl, _, rfl, _, rfl, _, rfl, pt_, _, _, _, rfl, rfl, SqT.of ept, z0, _, rfl, _, rfl, _, _, rfl, rfl, ⟨by (first | with_reducible assumption | lia | omega), by (first | with_reducible assumption | lia | omega)⟩, _, rfl, _, _, rfl, rfl, (by show (0 : Int) < _; (first | with_reducible assumption | lia | omega)), a, l1, xs, f, k / Cart.many y % Cart.many x, some i, x, ex, ?_, ha5, hp, e1, by (first | with_reducible assumption | lia | omega), by (first | with_reducible assumption | lia | omega), by (first | with_reducible assumption | lia | omega), ?_, hsE.sublist pp.sx, Nat.mod_lt _ pl, fun r1 H6 s6 hr1 er1 => ?_⟩
      · try dsimp only
        rw [← Int.natCast_ediv, ← Int.natCast_emod]
        rfl
      · rw [hxl, ← hi]; exact px
      try dsimp only [gName, List.set]
      refine ⟨_, rfl, _, rfl, _, _, rfl, rfl, _, rfl, _, rfl, pt_, _, _, _, rfl, rfl, SqT.of (s6 _ _ ept), z1, _, rfl, _, rfl, _, _, rfl, rfl, (by show (0 : Int) < _; (first | with_reducible assumption | lia | omega)), a, l2, xs, i + 1, k % Cart.many y, some i, y, ey, ?_, s6 _ _ ha5, hp, s6 _ _ e2, by (first | with_reducible assumption | lia | omega), by (first | with_reducible assumption | lia | omega), by (first | with_reducible assumption | lia | omega), ?_, hsE.sublist pp.sy, Nat.mod_lt _ pr, fun r2 H7 s7 hr2 er2 => ?_⟩
      · try dsimp only
        rw [← Int.natCast_emod]
        rfl
      · have e3 : i + 1 + ey.length = f + (e :: E).length := by (first | with_reducible assumption | lia | omega)
        rw [e3]; exact py
      try dsimp only [gName, List.set]
      have s67 := s6.trans s7
      have hb7 := s67 _ _ hb5
      have o1 := (Cart.ord_ok x ex (k / Cart.many y % Cart.many x) (hsE.sublist pp.sx) hxl (Nat.mod_lt _ pl)).2.1.len
      have o2 := (Cart.ord_ok y ey (k % Cart.many y) (hsE.sublist pp.sy) hyl (Nat.mod_lt _ pr)).2.1.len
      have ze : atI ((e :: E).map nV) 0 = some (nV e) := atI_nat (j := 0) rfl
      refine ⟨_, rfl, _, rfl, b, _, _, _, rfl, rfl, SqL.of hb7, ze, (by show 1 ≤ sizeLine; decide), fun l3 hl3 => ?_⟩
      have s8 := same_new hl3 (.lst [nV e])
      refine ⟨r1, l3, _, _, rfl, rfl, s8 _ _ (s7 _ _ er1), upd_same, small (by rw [List.length_map]; show _ + 1 ≤ 1000; (first | with_reducible assumption | lia | omega)), fun l4 hl4 => ?_⟩
      have s9 := same_new hl4 (.lst ((Cart.ord x ex (k / Cart.many y % Cart.many x)).map nV ++ [nV e]))
      refine ⟨_, rfl, l4, r2, _, _, rfl, rfl, upd_same, s9 _ _ (s8 _ _ er2), small (by rw [List.length_append, List.length_map, List.length_map]; show _ + 1 + _ ≤ 1000; (first | with_reducible assumption | lia | omega)), fun l5 hl5 => ?_⟩
      have sA := s0.trans (s13.trans (s45.trans (s67.trans (s8.trans s9))))
      refine q l5 _ (sA.trans (same_new hl5 _)) (sA.free hl5) ?_
      rw [upd_same]
      have eo : Cart.ord (.node x y) (e :: E) k = Cart.ord x ex (k / Cart.many y % Cart.many x) ++ e :: Cart.ord y ey (k % Cart.many y) := by
        show Cart.ord x (Cart.part E x.size (k / (Cart.many x * Cart.many y))).1 (k / Cart.many y % Cart.many x) ++ e :: Cart.ord y (Cart.part E x.size (k / (Cart.many x * Cart.many y))).2 (k % Cart.many y) = _
        rw [hpx, hpy]
      rw [eo, List.map_append, List.map_cons, List.append_assoc]
      rfl
inductive Isp_order_at (K : PySem.W.Frag) (C : Addr) (vs : List V) (H : Hp) (Q : VK) : Prop where
  | mk (a : Addr) (t : Cart.BT) (k : Nat) (h0 : vs = [.ref a, .int (k : Int)]) (h1 : H a = some (.lst (bl t))) (h2 : 0 < t.size) (h3 : t.size ≤ 40) (h4 : k < Cart.many t) (h5 : ∀ (l : Addr) (H' : Hp) (o : List Nat), Same H H' → H l = none → H' l = some (.lst (o.map nV)) → HasT o t → ordNum t o = k → Q (.ref l) H') : Isp_order_at K C vs H Q
noncomputable def sp_order_at (K : PySem.W.Frag) (C : Addr) : Sp := fun vs H Q _ => Isp_order_at K C vs H Q
theorem d_order_at {f C : Addr} {fd : FuncData} (F : Fun K "order_at" "order_at" s_order_at f fd) (T : Txt K mg C) (D_check_number : Def P w K mg base 1 "check_number" ["many", "number"] (sp_check_number K C)) (D_many_orders : Def P w K mg base 45 "many_orders" ["tree"] (sp_many_orders K C)) (D_order_in_part : Def P w K mg base 83 "order_in_part" ["tree", "first", "over", "entries", "number"] (sp_order_in_part K C)) : FnOk P w K mg base CX0 84 f fd ["tree", "number"] (sp_order_at K C) := by
  refine F.ok sc_order_at (fun vs H Q E h => ?_) (fun cdv A outer s H vs Q E hr h => ?_)
  · obtain ⟨a, t, k, rfl, _⟩ := h
    rfl
  · obtain ⟨a, t, k, rfl, ha, h1, h2, hk, q⟩ := h
    have hbl := bl_len t
    refine ⟨_, (pss_cons (ps_expr (pe_def D_check_number (hr.mono (by decide)) (pa_cons (pe_def D_many_orders (hr.mono (by decide)) (pa_cons (pv 0) pa_nil)) (pa_cons (pv 1) pa_nil))))
      (pss_one (ps_ret (pe_def D_order_in_part (hr.mono (by decide)) (pa_cons (pv 0) (pa_cons pe_int (pa_cons pe_non (pa_cons (pe_listRange rfl rfl T.z_list rfl T.z_range (pa_cons (pe_callB call_len_seq rfl T.z_len PySem.boot_len (pa_cons (pv 0) pa_nil)) pa_nil)) (pa_cons (pv 1) pa_nil))))))))), ?_⟩
    refine ⟨_, rfl, a, t, rfl, ha, h1, h2, fun H1 s1 => ?_⟩
    have ha1 := s1 _ _ ha
    refine ⟨_, rfl, _, _, rfl, by (first | with_reducible assumption | lia | omega), by (first | with_reducible assumption | lia | omega), ?_⟩
    refine ⟨_, rfl, _, rfl, a, _, rfl, .inl (SqL.of ha1), t.size, (by rw [hbl]), (by (first | with_reducible assumption | lia | omega)), fun en hen => ?_⟩
    have s2 := same_new hen (.lst ((List.range t.size).map fun i : Nat => V.int (i : Int)))
    have hlr : (List.range t.size).length = t.size := List.length_range
    have hok := Cart.ord_ok t (List.range t.size) k (range_lt _) hlr hk
    refine ⟨_, rfl, a, en, bl t, 0, k, none, t, List.range t.size, rfl, s2 _ _ ha1, bl_plain t, upd_same, by (first | with_reducible assumption | lia | omega), by (first | with_reducible assumption | lia | omega), by (first | with_reducible assumption | lia | omega), ?_, range_lt _, hk, fun l H3 s3 hl e3 => ?_⟩
    · rw [hlr, Nat.zero_add]
      exact .whole
    · have s12 := s1.trans s2
      have hlo : (Cart.ord t (List.range t.size) k).length = t.size := hok.2.1.len
      refine q l H3 _ (s12.trans s3) (s12.free hl) e3 ⟨hok.1, (Cart.fit_iff t _ _ 0 hlo fun i _ => by rw [Nat.zero_add]).mpr hok.2.1⟩ hok.2.2
inductive IspN_number_in_part (n : Nat) (K : PySem.W.Frag) (C : Addr) (vs : List V) (H : Hp) (Q : VK) : Prop where
  | mk (a b : Addr) (xs ov : List V) (f b' : Nat) (top : Option Nat) (t : Cart.BT) (E o : List Nat) (h0 : vs = [.ref a, .ref b, .int (f : Int), .int (b' : Int), oV top]) (h1 : SqL K H a xs) (h2 : (∀ x ∈ xs, plainV x = true)) (h3 : H b = some (.lst ov)) (h4 : ov.length = xs.length) (h5 : b' - f ≤ 40) (h6 : b' - f < n) (h7 : b' ≤ 100) (h8 : Part xs f b' top t) (h9 : (ov.drop f).take (b' - f) = o.map nV) (h10 : o.Perm E) (h11 : E.Pairwise (· < ·)) (h12 : Cart.FitL t o) (h13 : ∀ H', Same H H' → Q (.int (Cart.onum t E o : Nat)) H') : IspN_number_in_part n K C vs H Q
noncomputable def spN_number_in_part (n : Nat) (K : PySem.W.Frag) (C : Addr) : Sp := fun vs H Q _ => IspN_number_in_part n K C vs H Q
theorem spN0_number_in_part {K : PySem.W.Frag} {C : Addr} {vs : List V} {H : Hp} {Q : VK} {E : XK} : ¬ spN_number_in_part 0 K C vs H Q E := by
  rintro ⟨_, _, _, _, _, _, _, _, _, _, _, _, _, _, _, _, h, _⟩
  exact Nat.not_lt_zero _ h
noncomputable def sp_number_in_part (K : PySem.W.Frag) (C : Addr) : Sp := spN_number_in_part 41 K C
theorem d_number_in_part {f C : Addr} {fd : FuncData} (F : Fun K "number_in_part" "number_in_part" s_number_in_part f fd) (T : Txt K mg C) (hmf : mg "number_in_part" = some (.ref f)) (hkf : PySem.W.keepIn K (.ref f) = true) (hbf : Binds K fd ["tree", "order", "first", "behind", "over"] []) (D_head_under : Def P w K mg base 1 "head_under" ["tree", "first", "behind", "over"] (sp_head_under K C)) (D_many_in_part : Def P w K mg base 42 "many_in_part" ["tree", "first", "behind", "over"] (sp_many_in_part K C)) (D_parting_number : Def P w K mg base 2 "parting_number" ["ahead", "rest"] (sp_parting_number K C)) : FnOk P w K mg base CX0 (42 + 41) f fd ["tree", "order", "first", "behind", "over"] (sp_number_in_part K C) := by
  refine rec_ok (x := "number_in_part") (m := 42) (fun n => spN_number_in_part n K C) (fun _ _ _ _ => spN0_number_in_part) hmf hkf hbf (fun n D_number_in_part => ?_) 41
  refine F.ok sc_number_in_part (fun vs H Q E h => ?_) (fun cdv A outer s H vs Q E hr h => ?_)
  · obtain ⟨a, b, xs, ov, f, b', top, t, E, o, rfl, _⟩ := h
    rfl
  · obtain ⟨a, b, xs, ov, f, b', top, t, E, o, rfl, hS, hp, hb, hov, hN, hn, hb1, pt, ho, hpe, hs, hfit, q⟩ := h
    have hfb := pt.le
    have hsz := pt.size
    have hbx := pt.hi
    refine ⟨_, (pss_cons (ps_if (pt_cmpR op_eq (pv 2) (pv 3) (nomark _)) (pss_one (ps_ret pe_int)) pss_nil)
      (pss_cons (ps_set (i := 5) sc_number_in_part.nd rfl (by first | exact Or.inl rfl | exact Or.inr rfl) (pe_def D_head_under (hr.mono (by (first | with_reducible assumption | lia | omega))) (pa_cons (pv 0) (pa_cons (pv 2) (pa_cons (pv 3) (pa_cons (pv 4) pa_nil))))))
      (pss_cons (ps_set (i := 6) sc_number_in_part.nd rfl (by first | exact Or.inl rfl | exact Or.inr rfl) (pe_def D_many_in_part (hr.mono (by (first | with_reducible assumption | lia | omega))) (pa_cons (pv 0) (pa_cons (pv 2) (pa_cons (pv 5) (pa_cons (pv 5) pa_nil))))))
      (pss_cons (ps_set (i := 7) sc_number_in_part.nd rfl (by first | exact Or.inl rfl | exact Or.inr rfl) (pe_def D_many_in_part (hr.mono (by (first | with_reducible assumption | lia | omega))) (pa_cons (pv 0) (pa_cons (pe_op op_add (pv 5) pe_int) (pa_cons (pv 3) (pa_cons (pv 5) pa_nil))))))
      (pss_cons (ps_set (i := 8) sc_number_in_part.nd rfl (by first | exact Or.inl rfl | exact Or.inr rfl) (pe_def D_parting_number (hr.mono (by (first | with_reducible assumption | lia | omega))) (pa_cons (pe_slice sl_list (pv 1) (po_some (pv 2)) (po_some (pv 5))) (pa_cons (pe_slice sl_list (pv 1) (po_some (pe_op op_add (pv 5) pe_int)) (po_some (pv 3))) pa_nil))))
      (pss_cons (ps_set (i := 9) sc_number_in_part.nd rfl (by first | exact Or.inl rfl | exact Or.inr rfl) (pe_def D_number_in_part (hr.mono (by (first | with_reducible assumption | lia | omega))) (pa_cons (pv 0) (pa_cons (pv 1) (pa_cons (pv 2) (pa_cons (pv 5) (pa_cons (pv 5) pa_nil)))))))
      (pss_cons (ps_set (i := 10) sc_number_in_part.nd rfl (by first | exact Or.inl rfl | exact Or.inr rfl) (pe_def D_number_in_part (hr.mono (by (first | with_reducible assumption | lia | omega))) (pa_cons (pv 0) (pa_cons (pv 1) (pa_cons (pe_op op_add (pv 5) pe_int) (pa_cons (pv 3) (pa_cons (pv 5) pa_nil)))))))
      (pss_one (ps_ret (pe_op op_add (pe_op op_mulM (pe_op op_add (pe_op op_mulM (pv 8) (pv 6)) (pv 9)) (pv 7)) (pv 10))))))))))), ?_⟩
    refine ⟨_, rfl, _, rfl, rfl, _, rfl, ite2 (fun c => ?_) (fun c => ?_)⟩
    · have e : b' - f = 0 := by
        have := V.int.inj (of_decide_eq_true c)
        (first | with_reducible assumption | lia | omega)
      cases t with
      | nil => exact q H (Same.refl H)
      | node x y =>
        have : x.size + y.size + 1 = b' - f := hsz
        (first | with_reducible assumption | lia | omega)
    · cases t with
      | nil =>
        have : (0 : Nat) = b' - f := hsz
        exact absurd (decide_eq_true (show V.int (f : Int) = V.int (b' : Int) by rw [show f = b' by (first | with_reducible assumption | lia | omega)])) c
      | node x y =>
        have hs' : x.size + y.size + 1 = b' - f := hsz
        obtain ⟨hF, px, py⟩ := pt.node
        obtain ⟨i, hi⟩ : ∃ i, i = f + x.size := ⟨_, rfl⟩
        rw [← hi] at hF px py
        have h1 := hF.lo
        have h2 := hF.hi
        obtain ⟨u, e, v, rfl, hul, hlt, hle, fu, fv⟩ := hfit
        obtain ⟨eE, hpt, hst⟩ := Cart.fit_head (l := x) (r := y) hs hpe hlt hle
        rw [Cart.onum_node hul] at q
        have hpl := hpt.length_eq
        have hvl := fv.len
        rw [List.length_append] at hpl
        have nd := Cart.sort_nd hst
        obtain ⟨f1, f2⟩ := Cart.perm_filter_in hpt nd
        rw [List.map_append, List.map_cons] at ho
        obtain ⟨g1, g2, g3, g4⟩ := split_part ho (by (first | with_reducible assumption | lia | omega))
        rw [List.length_map, hul, ← hi] at g1 g2 g3
        refine ⟨_, rfl, _, rfl, _, rfl, _, rfl, a, xs, f, b', i, _, rfl, hS, hp, oV_plain top, hbx, hF, fun H1 s1 => ?_⟩
        try dsimp only [gName, List.set]
        refine ⟨_, rfl, _, rfl, _, rfl, _, rfl, a, xs, f, i, some i, x, rfl, s1.seq hS, hp, by (first | with_reducible assumption | lia | omega), by (first | with_reducible assumption | lia | omega), by (first | with_reducible assumption | lia | omega), px, fun H2 s2 => ?_⟩
        try dsimp only [gName, List.set]
        have s12 := s1.trans s2
        refine ⟨_, rfl, _, rfl, _, _, rfl, rfl, _, rfl, _, rfl, a, xs, i + 1, b', some i, y, rfl, s12.seq hS, hp, by (first | with_reducible assumption | lia | omega), by (first | with_reducible assumption | lia | omega), by (first | with_reducible assumption | lia | omega), py, fun H3 s3 => ?_⟩
        try dsimp only [gName, List.set]
        have s13 := s12.trans s3
        have hb3 := s13 _ _ hb
        refine ⟨_, rfl, _, rfl, _, rfl, _, rfl, _, rfl, b, _, rfl, SqL.of hb3, fun l1 hl1 => ?_⟩
        rw [cutV_nn ov (by (first | with_reducible assumption | lia | omega)) (by (first | with_reducible assumption | lia | omega)), g2]
        have s4 := same_new hl1 (.lst (u.map nV))
        have hb4 := s4 _ _ hb3
        refine ⟨_, rfl, _, rfl, _, _, rfl, rfl, _, rfl, _, rfl, _, rfl, b, _, rfl, SqL.of hb4, fun l2 hl2 => ?_⟩
        have ei : (i : Int) + 1 = ((i + 1 : Nat) : Int) := by (first | with_reducible assumption | lia | omega)
        try dsimp only
        rw [ei, cutV_nn ov (by (first | with_reducible assumption | lia | omega)) (by (first | with_reducible assumption | lia | omega)), g3]
        have s5 := same_new hl2 (.lst (v.map nV))
        refine ⟨l1, l2, u, v, E.tail, rfl, s5 _ _ upd_same, upd_same, hpt, hst, by (first | with_reducible assumption | lia | omega), fun H6 s6 => ?_⟩
        try dsimp only [gName, List.set]
        have s16 := s13.trans (s4.trans (s5.trans s6))
        have sub1 : (E.tail.filter (· ∈ u)).Pairwise (· < ·) := hst.sublist List.filter_sublist
        have sub2 : (E.tail.filter (· ∉ u)).Pairwise (· < ·) := hst.sublist List.filter_sublist
        refine ⟨_, rfl, _, rfl, _, rfl, _, rfl, _, rfl, a, b, xs, ov, f, i, some i, x, E.tail.filter (· ∈ u), u, rfl, s16.seq hS, hp, s16 _ _ hb, hov, by (first | with_reducible assumption | lia | omega), by (first | with_reducible assumption | lia | omega), by (first | with_reducible assumption | lia | omega), px, g2, f1.symm, sub1, fu, fun H7 s7 => ?_⟩
        try dsimp only [gName, List.set]
        have s17 := s16.trans s7
        refine ⟨_, rfl, _, rfl, _, rfl, _, _, rfl, rfl, _, rfl, _, rfl, a, b, xs, ov, i + 1, b', some i, y, E.tail.filter (· ∉ u), v, rfl, s17.seq hS, hp, s17 _ _ hb, hov, by (first | with_reducible assumption | lia | omega), by (first | with_reducible assumption | lia | omega), by (first | with_reducible assumption | lia | omega), py, g3, f2.symm, sub2, fv, fun H8 s8 => ?_⟩
        try dsimp only [gName, List.set]
        have s18 := s17.trans s8
        have b1 := (Cart.part_pnum E.tail u u.length f1.length_eq.symm).1
        have b2 := Cart.choose_small (n := E.tail.length) (k := u.length) (by (first | with_reducible assumption | lia | omega))
        have b3 := Cart.many_small (t := x) (by (first | with_reducible assumption | lia | omega))
        have b4 := Cart.many_small (t := y) (by (first | with_reducible assumption | lia | omega))
        have b5 := (Cart.onum_ok x _ u sub1 f1.symm fu).1
        rw [hul] at b1 b2 ⊢
        have m1 : Cart.pnum E.tail u x.size * Cart.many x ≤ 2 ^ 40 * 2 ^ 160 := Nat.mul_le_mul (by (first | with_reducible assumption | lia | omega)) (Nat.le_of_lt b3)
        have m2 : (2 : Nat) ^ 40 * 2 ^ 160 + 2 ^ 160 < 2 ^ 250 := by decide
        refine ⟨_, rfl, _, rfl, _, _, rfl, rfl, ⟨by (first | with_reducible assumption | lia | omega), by (first | with_reducible assumption | lia | omega)⟩, _, rfl, _, _, rfl, rfl, _, rfl, _, _, rfl, rfl, ⟨?_, by (first | with_reducible assumption | lia | omega)⟩, _, rfl, _, _, rfl, rfl, ?_⟩
        · try dsimp only
          rw [← Int.natCast_mul, ← Int.natCast_add, Int.natAbs_natCast]
          (first | with_reducible assumption | lia | omega)
        · have q' := q _ s18
          rw [Int.natCast_add, Int.natCast_mul, Int.natCast_add, Int.natCast_mul] at q'
          exact q'
theorem tl_bl (ns : List Int) : tl ns = bl (Cart.tree (gn ns) 0 ns.length) := rfl
theorem tl_has {o : List Nat} {t : Cart.BT} (h : HasT o t) : tl (o.map fun x : Nat => (x : Int)) = bl t := by
  have hl : o.length = t.size := by rw [h.1.length_eq, List.length_range]
  unfold tl bl Cart.trees
  congr 2
  have e : gn (o.map fun x : Nat => (x : Int)) = fun j => ((o.getD j 0 : Nat) : Int) := funext fun j => getD_cast
  rw [e]
  exact Cart.tree_eq h.2 (by rw [List.length_map, hl])
theorem has_tl {o : List Nat} {n : Nat} (h : o.Perm (List.range n)) : HasT o (Cart.tree (gn (o.map fun x : Nat => (x : Int))) 0 (o.map fun x : Nat => (x : Int)).length) := by
  have hl : o.length = n := by rw [h.length_eq, List.length_range]
  refine ⟨?_, ?_⟩
  · rw [Cart.tree_size, List.length_map, hl]; exact h
  · have e : gn (o.map fun x : Nat => (x : Int)) = fun j => ((o.getD j 0 : Nat) : Int) := funext fun j => getD_cast
    rw [e]
    exact Cart.tree_fits _ _ _
theorem eqLs_plain {xs ys : List V} (hx : ∀ x ∈ xs, plainV x = true) (hy : ∀ y ∈ ys, plainV y = true) (h : eqLs xs ys = true) : xs = ys := by
  unfold eqLs at h
  rw [Bool.and_eq_true] at h
  have hl : xs.length = ys.length := of_decide_eq_true h.1
  refine List.ext_getElem hl fun i h1 h2 => ?_
  have q := List.all_eq_true.mp h.2 i (List.mem_range.mpr h1)
  have e1 : xs.getD i .non = xs[i] := by simp [List.getD, h1]
  have e2 : ys.getD i .non = ys[i] := by simp [List.getD, h2]
  rw [e1, e2, plain_eqV (hx _ (List.getElem_mem h1)) (hy _ (List.getElem_mem h2))] at q
  exact of_decide_eq_true q
theorem has_of_eq {o : List Nat} {t : Cart.BT} (hp : o.Perm (List.range t.size)) (h : eqLs (tl (o.map fun x : Nat => (x : Int))) (bl t) = true) : HasT o t := by
  have e := eqLs_plain (plain_shape (tl_shape _)) (bl_plain t) h
  rw [tl_bl] at e
  have e2 := bl_inj e
  have h2 := has_tl hp
  rw [e2] at h2
  exact h2
inductive IspX_check_order (K : PySem.W.Frag) (C : Addr) (vs : List V) (H : Hp) (Q : VK) (E : XK) : Prop where
  | mk (a b : Addr) (t : Cart.BT) (o : List Nat) (h0 : vs = [.ref a, .ref b]) (h1 : H a = some (.lst (bl t))) (h2 : H b = some (.lst (o.map nV))) (h3 : 0 < t.size) (h4 : t.size ≤ 40) (h5 : o.Perm (List.range t.size)) (h6 : (HasT o t → ∀ H', Same H H' → Q .non H')) (h7 : (¬ HasT o t → ∀ H', Same H H' → E (.ref (adr K "NoOrder")) none H')) : IspX_check_order K C vs H Q E
noncomputable def spX_check_order (K : PySem.W.Frag) (C : Addr) : Sp := fun vs H Q E => IspX_check_order K C vs H Q E
noncomputable def sp_check_order (K : PySem.W.Frag) (C : Addr) : Sp := fun vs H Q _ => spX_check_order K C vs H Q E0
theorem count_nV (o : List Nat) (j : Nat) : (o.map nV).countP (fun z => eqV z (.int (j : Int))) = o.count j := by
  rw [List.countP_map, List.count]
  refine List.countP_congr fun x _ => ?_
  show ((x : Int) == (j : Int)) = true ↔ (x == j) = true
  rw [beq_iff_eq, beq_iff_eq]
  (first | with_reducible assumption | lia | omega)
theorem count_range : ∀ n j : Nat, j < n → (List.range n).count j = 1
  | 0, _, h => by (first | with_reducible assumption | lia | omega)
  | n + 1, j, h => by
    rw [List.range_succ, List.count_append, List.count_singleton]
    by_cases e : j = n
    · subst e
      rw [List.count_eq_zero.mpr (fun z => by have := List.mem_range.mp z; (first | with_reducible assumption | lia | omega))]
      simp
    · rw [count_range n j (by (first | with_reducible assumption | lia | omega))]
      have : (n == j) = false := by simp; (first | with_reducible assumption | lia | omega)
      rw [this]
      rfl
theorem perm_count {o : List Nat} {n j : Nat} (h : o.Perm (List.range n)) (hj : j < n) : o.count j = 1 := by
  rw [h.count_eq]
  exact count_range n j hj
theorem d_check_order {f C : Addr} {fd : FuncData} (F : Fun K "check_order" "check_order" s_check_order f fd) (T : Txt K mg C) (D_tree_of : Def P w K mg base 44 "tree_of" ["row"] (sp_tree_of K C)) (D_Row : DefC P w K mg base 2 C "Row" ["self", "numbers"] (sp_Row_init K C)) : FnOk P w K mg base (CXE P w) 45 f fd ["tree", "order"] (spX_check_order K C) := by
  refine F.okX sc_check_order (fun vs H Q E h => ?_) (fun cdv A outer s H vs Q E hr h => ?_)
  · obtain ⟨a, b, t, o, rfl, _⟩ := h
    rfl
  · obtain ⟨a, b, t, o, rfl, ha, hb, h1, h2, hp, q, qe⟩ := h
    have hbl := bl_len t
    have hol : o.length = t.size := by rw [hp.length_eq, List.length_range]
    refine ⟨_, (pss_cons (ps_setC (i := 2) ["order"] [1] sc_check_order.nd rfl rfl (pi_range1 rfl T.z_range (pa_cons (pe_callB call_len_seq rfl T.z_len PySem.boot_len (pa_cons (pv 0) pa_nil)) pa_nil)) (fun _ _ _ _ => (pts_one (pt_cmpR op_eq (pe_bmK (K := K) rfl PySem.F.plainAttrs_list PySem.F.slot_list_count PySem.F.type_list_count mt_count (pv 1) (pa_cons (pv 0) pa_nil)) pe_int (nomark _)))) (fun _ _ _ _ => (pv 0)))
      (pss_cons (ps_if (PW.pt (pw_or (pt_cmpR op_ne (pe_callB call_len_seq rfl T.z_len PySem.boot_len (pa_cons (pv 1) pa_nil)) (pe_callB call_len_seq rfl T.z_len PySem.boot_len (pa_cons (pv 0) pa_nil)) (nomark _)) (pw_or1 (pt_cmpR op_ne (pe_callB call_len_seq rfl T.z_len PySem.boot_len (pa_cons (pv 2) pa_nil)) (pe_callB call_len_seq rfl T.z_len PySem.boot_len (pa_cons (pv 0) pa_nil)) (nomark _))))) (pss_one (ps_raise (E := E) rfl rfl T.e_NoOrder.mg T.e_NoOrder.cls (pa_cons pe_str pa_nil) raise_body)) pss_nil)
      (pss_one (ps_if (pt_cmpR (op_neS hr.units0) (pe_def D_tree_of (hr.mono (by decide)) (pa_cons (pe_Row D_Row (hr.mono (by decide)) (pa_cons (pv 1) pa_nil)) pa_nil)) (pv 0) (nomark _)) (pss_one (ps_raise (E := E) rfl rfl T.e_NoOrder.mg T.e_NoOrder.cls (pa_cons pe_str pa_nil) raise_body)) pss_nil)))), ?_⟩
    refine ⟨_, rfl, a, _, rfl, .inl (SqL.of ha), _, rfl, (by (first | with_reducible assumption | lia | omega)), (by (first | with_reducible assumption | lia | omega)), ?_⟩
    rw [hbl, Int.toNat_natCast]
    refine comp_range (fun _ => true) (fun j => .int (j : Int)) (by (first | with_reducible assumption | lia | omega)) (fun j H3 Q' hj t1 q' => ?_) (fun j H3 Q' hj _ t1 q' => ?_) fun D H3 t1 hD e3 => ?_
    · have e0 : (0 : Int) + (j : Int) = j := by (first | with_reducible assumption | lia | omega)
      rw [e0]
      have hb3 := t1 _ _ hb
      refine ⟨_, rfl, .inl ⟨rfl, _, SqL.of hb3⟩, _, rfl, b, _, _, rfl, rfl, hb3, nV_all _, rfl, rfl, _, rfl, ?_⟩
      rw [count_nV, perm_count hp hj]
      exact q'
    · have e0 : (0 : Int) + (j : Int) = j := by (first | with_reducible assumption | lia | omega)
      rw [e0]
      exact ⟨_, rfl, q' _ (Same.refl _)⟩
    · have hlen : (((List.range t.size).filter fun _ => true).map fun j : Nat => V.int (j : Int)).length = t.size := by
        rw [List.filter_eq_self.mpr (fun _ _ => rfl), List.length_map, List.length_range]
      try dsimp only [gName, List.set]
      have ha3 := t1 _ _ ha
      have hb3 := t1 _ _ hb
      refine ⟨_, rfl, b, _, rfl, .inl (SqL.of hb3), _, rfl, a, _, rfl, .inl (SqL.of ha3), rfl, _, rfl, ?_⟩
      rw [decide_eq_true (show V.int (((o.map nV).length : Nat) : Int) = V.int (((bl t).length : Nat) : Int) by rw [List.length_map, hol, hbl])]
      refine iteF ?_
      refine ⟨_, rfl, D, _, rfl, .inl (SqL.of e3), _, rfl, a, _, rfl, .inl (SqL.of ha3), rfl, _, rfl, ?_⟩
      rw [decide_eq_true (show V.int ((_ : Nat) : Int) = V.int (((bl t).length : Nat) : Int) by rw [hlen, hbl])]
      refine iteF ?_
      have hb3' := hb3
      rw [ints_nV] at hb3'
      refine ⟨_, rfl, b, _, rfl, SqL.of hb3', (by rw [List.length_map]; (first | with_reducible assumption | lia | omega)), fun p d H4 _ _ s4 R4 => ?_⟩
      refine ⟨p, d, _, rfl, R4, fun l H5 s5 _ e5 => ?_⟩
      have s35 := s4.trans s5
      refine ⟨_, rfl, l, a, _, _, rfl, rfl, .inl ⟨SqL.of e5, SqL.of (s35 _ _ ha3)⟩, tl_flat _, bl_flat _, _, rfl, ?_⟩
      by_cases hT : HasT o t
      · rw [tl_has hT, eqLs_self (bl_flat _)]
        exact iteF (q hT _ (t1.trans s35))
      · have he : eqLs (tl (o.map fun x : Nat => (x : Int))) (bl t) = false := by
          rw [Bool.eq_false_iff]
          exact fun z => hT (has_of_eq hp z)
        rw [he]
        exact iteT ⟨(by show 1 ≤ sizeLine; decide), qe hT _ (t1.trans s35)⟩
inductive IspX_order_number (K : PySem.W.Frag) (C : Addr) (vs : List V) (H : Hp) (Q : VK) (E : XK) : Prop where
  | mk (a b : Addr) (t : Cart.BT) (o : List Nat) (h0 : vs = [.ref a, .ref b]) (h1 : H a = some (.lst (bl t))) (h2 : H b = some (.lst (o.map nV))) (h3 : 0 < t.size) (h4 : t.size ≤ 40) (h5 : o.Perm (List.range t.size)) (h6 : (HasT o t → ∀ H', Same H H' → Q (.int (ordNum t o : Nat)) H')) (h7 : (¬ HasT o t → ∀ H', Same H H' → E (.ref (adr K "NoOrder")) none H')) : IspX_order_number K C vs H Q E
noncomputable def spX_order_number (K : PySem.W.Frag) (C : Addr) : Sp := fun vs H Q E => IspX_order_number K C vs H Q E
noncomputable def sp_order_number (K : PySem.W.Frag) (C : Addr) : Sp := fun vs H Q _ => spX_order_number K C vs H Q E0
theorem d_order_number {f C : Addr} {fd : FuncData} (F : Fun K "order_number" "order_number" s_order_number f fd) (T : Txt K mg C) (D_check_tree : Def P w K mg base 44 "check_tree" ["some"] (sp_check_tree K C)) (DX_check_order : DefX P w K mg base 45 "check_order" ["tree", "order"] (spX_check_order K C)) (D_number_in_part : Def P w K mg base 83 "number_in_part" ["tree", "order", "first", "behind", "over"] (sp_number_in_part K C)) : FnOk P w K mg base (CXE P w) 84 f fd ["tree", "order"] (spX_order_number K C) := by
  refine F.okX sc_order_number (fun vs H Q E h => ?_) (fun cdv A outer s H vs Q E hr h => ?_)
  · obtain ⟨a, b, t, o, rfl, _⟩ := h
    rfl
  · obtain ⟨a, b, t, o, rfl, ha, hb, h1, h2, hp, q, qe⟩ := h
    have hbl := bl_len t
    have hol : o.length = t.size := by rw [hp.length_eq, List.length_range]
    refine ⟨_, (pss_cons (ps_expr (pe_def D_check_tree (hr.mono (by decide)) (pa_cons (pv 0) pa_nil)))
      (pss_cons (ps_expr (pe_defX DX_check_order pass_body (hr.mono (by decide)) (pa_cons (pv 0) (pa_cons (pv 1) pa_nil))))
      (pss_one (ps_ret (pe_def D_number_in_part (hr.mono (by decide)) (pa_cons (pv 0) (pa_cons (pv 1) (pa_cons pe_int (pa_cons (pe_callB call_len_seq rfl T.z_len PySem.boot_len (pa_cons (pv 0) pa_nil)) (pa_cons pe_non pa_nil)))))))))), ?_⟩
    refine ⟨_, rfl, a, t, rfl, ha, h1, h2, fun H1 s1 => ?_⟩
    refine ⟨_, rfl, _, rfl, a, b, t, o, rfl, s1 _ _ ha, s1 _ _ hb, h1, h2, hp, fun hT H2 s2 => ?_, fun hT H2 s2 => qe hT _ (s1.trans s2)⟩
    have s12 := s1.trans s2
    have ha2 := s12 _ _ ha
    refine ⟨_, rfl, _, rfl, _, rfl, a, _, rfl, .inl (SqL.of ha2), a, b, bl t, o.map nV, 0, (bl t).length, none, t, List.range t.size, o, rfl, SqL.of ha2, bl_plain t, s12 _ _ hb, ?_, by (first | with_reducible assumption | lia | omega), by (first | with_reducible assumption | lia | omega), by (first | with_reducible assumption | lia | omega), ?_, ?_, hp, range_lt _, hT.fit, fun H3 s3 => q hT _ (s12.trans s3)⟩
    · rw [List.length_map, hol, hbl]
    · rw [hbl]; exact .whole
    · rw [List.drop_zero, Nat.sub_zero, List.take_of_length_le (by rw [List.length_map]; (first | with_reducible assumption | lia | omega))]
structure Lsts (H : Hp) (as : List Addr) (rows : List (List Nat)) : Prop where
  len : as.length = rows.length
  at_ : ∀ (i : Nat) (a : Addr), as[i]? = some a → H a = some (.lst ((rows.getD i []).map nV))
theorem Lsts.to {H H' : Hp} {as : List Addr} {rows : List (List Nat)} (x : Lsts H as rows) (h : ∀ a, a ∈ as → H' a = H a) : Lsts H' as rows := ⟨x.len, fun i a e => by rw [h a (List.mem_of_getElem? e)]; exact x.at_ i a e⟩
theorem Lsts.same {H H' : Hp} {as : List Addr} {rows : List (List Nat)} (x : Lsts H as rows) (s : Same H H') : Lsts H' as rows := ⟨x.len, fun i a e => s _ _ (x.at_ i a e)⟩
theorem Lsts.snoc {H : Hp} {as : List Addr} {rows : List (List Nat)} {a : Addr} {t : List Nat} (x : Lsts H as rows) (h : H a = some (.lst (t.map nV))) : Lsts H (as ++ [a]) (rows ++ [t]) := by
  refine ⟨by rw [List.length_append, List.length_append, x.len]; rfl, fun i b e => ?_⟩
  by_cases hi : i < as.length
  · rw [List.getElem?_append_left hi] at e
    rw [List.getD_eq_getElem?_getD, List.getElem?_append_left (by rw [← x.len]; exact hi), ← List.getD_eq_getElem?_getD]
    exact x.at_ i b e
  · rw [List.getElem?_append_right (by (first | with_reducible assumption | lia | omega))] at e
    have hz : i - as.length = 0 := by
      rcases Nat.eq_zero_or_pos (i - as.length) with z | z
      · exact z
      · rw [List.getElem?_eq_none (by rw [List.length_singleton]; (first | with_reducible assumption | lia | omega))] at e
        cases e
    rw [hz] at e
    have eb : a = b := Option.some.inj e
    subst eb
    have ei : i = rows.length := by have := x.len; (first | with_reducible assumption | lia | omega)
    subst ei
    rw [List.getD_eq_getElem?_getD, List.getElem?_append_right (Nat.le_refl _), Nat.sub_self]
    exact h
theorem Lsts.isLst {H : Hp} {as : List Addr} {rows : List (List Nat)} (x : Lsts H as rows) {a : Addr} (h : a ∈ as) : ∃ t ∈ rows, H a = some (.lst (t.map nV)) := by
  obtain ⟨i, hi, rfl⟩ := List.getElem_of_mem h
  refine ⟨rows.getD i [], ?_, x.at_ i _ (List.getElem?_eq_getElem hi)⟩
  have hi' : i < rows.length := by rw [← x.len]; exact hi
  rw [List.getD_eq_getElem?_getD, List.getElem?_eq_getElem hi']
  exact List.getElem_mem hi'
theorem cutV_lo (xs : List V) (k : Nat) : cutV xs none (some (k : Int)) = xs.take k := by
  unfold cutV
  rw [HT.sIx_none, HT.sIx_nat, List.drop_zero, Nat.sub_zero]
  rcases Nat.le_total k xs.length with h | h
  · rw [Nat.min_eq_left h]
  · rw [Nat.min_eq_right h, List.take_of_length_le (Nat.le_refl _), List.take_of_length_le h]
theorem cutV_hi (xs : List V) (k : Nat) : cutV xs (some (k : Int)) none = xs.drop k := by
  unfold cutV
  rw [HT.sIx_none, HT.sIx_nat]
  rcases Nat.le_total k xs.length with h | h
  · rw [Nat.min_eq_left h, List.take_of_length_le (by rw [List.length_drop]; exact Nat.le_refl _)]
  · rw [Nat.min_eq_right h, Nat.sub_self, List.drop_eq_nil_of_le h]
    rfl
noncomputable def ins (k : Nat) (row : List Nat) (m : Nat) : List (List Nat) := (List.range m).map fun at_ => row.take at_ ++ k :: row.drop at_
theorem ins_snoc (k : Nat) (row : List Nat) (m : Nat) : ins k row (m + 1) = ins k row m ++ [row.take m ++ k :: row.drop m] := by
  unfold ins
  rw [List.range_succ, List.map_append]
  rfl
theorem ins_len (k : Nat) (row : List Nat) (m : Nat) : (ins k row m).length = m := by
  unfold ins
  rw [List.length_map, List.length_range]
noncomputable def ordTo (k j : Nat) : List (List Nat) := ((Cart.orders k).take j).flatMap fun row => ins k row (k + 1)
theorem ordTo_all (k : Nat) : ordTo k (Cart.orders k).length = Cart.orders (k + 1) := by
  unfold ordTo
  rw [List.take_length]
  rfl
theorem ordTo_succ {k j : Nat} (h : j < (Cart.orders k).length) : ordTo k (j + 1) = ordTo k j ++ ins k ((Cart.orders k).getD j []) (k + 1) := by
  unfold ordTo
  rw [List.take_succ, List.getElem?_eq_getElem h, List.flatMap_append, List.getD_eq_getElem?_getD, List.getElem?_eq_getElem h]
  simp
theorem flat_len {α β : Type} {f : α → List β} {c : Nat} : ∀ (l : List α), (∀ a ∈ l, (f a).length = c) → (l.flatMap f).length = l.length * c
  | [], _ => by simp
  | a :: l, h => by
    rw [List.flatMap_cons, List.length_append, h a (List.mem_cons_self ..), flat_len l fun b hb => h b (List.mem_cons_of_mem _ hb), List.length_cons, Nat.add_mul, Nat.one_mul]
    (first | with_reducible assumption | lia | omega)
theorem ordTo_len (k j : Nat) : (ordTo k j).length = min j (Cart.orders k).length * (k + 1) := by
  unfold ordTo
  rw [flat_len _ fun a _ => ins_len k a (k + 1), List.length_take]
theorem orders_len : ∀ n, (Cart.orders n).length = Cart.fact n
  | 0 => rfl
  | n + 1 => by
    rw [← ordTo_all, ordTo_len, Nat.min_self, orders_len n, Nat.mul_comm]
    rfl
theorem fact6 : ∀ n, n ≤ 6 → Cart.fact n ≤ 720 := by decide
theorem orders_small {k : Nat} (h : k < 6) : (Cart.orders k).length * (k + 1) ≤ 720 := by
  have := fact6 (k + 1) (by (first | with_reducible assumption | lia | omega))
  rw [orders_len, Nat.mul_comm]
  exact this
inductive Isp_law_orders (K : PySem.W.Frag) (C : Addr) (vs : List V) (H : Hp) (Q : VK) : Prop where
  | mk (n : Nat) (h0 : vs = [.int (n : Int)]) (h1 : n ≤ 6) (h2 : ∀ (l : Addr) (H' : Hp) (as : List Addr), Same H H' → H l = none → H' l = some (.lst (as.map V.ref)) → Lsts H' as (Cart.orders n) → Q (.ref l) H') : Isp_law_orders K C vs H Q
noncomputable def sp_law_orders (K : PySem.W.Frag) (C : Addr) : Sp := fun vs H Q _ => Isp_law_orders K C vs H Q
theorem d_law_orders {f C : Addr} {fd : FuncData} (F : Fun K "_law_orders" "_law_orders" s_law_orders f fd) (T : Txt K mg C)  : FnOk P w K mg base CX0 1 f fd ["size"] (sp_law_orders K C) := by
  refine F.ok sc_law_orders (fun vs H Q E h => ?_) (fun cdv A outer s H vs Q E hr h => ?_)
  · obtain ⟨n, rfl, _⟩ := h
    rfl
  · obtain ⟨n, rfl, hn, q⟩ := h
    refine ⟨_, (pss_cons (ps_set (i := 1) sc_law_orders.nd rfl (by first | exact Or.inl rfl | exact Or.inr rfl) (pe_lst (pa_cons (pe_lst pa_nil) pa_nil)))
      (pss_cons (ps_for PassesOwn.never rfl (pi_range1 rfl T.z_range (pa_cons (pv 0) pa_nil)) (pg_name (i := 2) sc_law_orders.nd rfl (by first | exact Or.inl rfl | exact Or.inr rfl))
        (pss_cons (ps_set (i := 3) sc_law_orders.nd rfl (by first | exact Or.inl rfl | exact Or.inr rfl) (pe_lst pa_nil))
      (pss_cons (ps_for PassesOwn.never rfl (pi_list (pv 1)) (pg_name (i := 4) sc_law_orders.nd rfl (by first | exact Or.inl rfl | exact Or.inr rfl))
        (pss_one (ps_for PassesOwn.never rfl (pi_range1 rfl T.z_range (pa_cons (pe_op op_add (pv 2) pe_int) pa_nil)) (pg_name (i := 5) sc_law_orders.nd rfl (by first | exact Or.inl rfl | exact Or.inr rfl))
        (pss_one (ps_expr (pe_bm PySem.F.plainAttrs_list PySem.F.slot_list_append PySem.F.type_list_append mt_append (pv 3) (pa_cons (pe_op op_cat (pe_op op_cat (pe_slice sl_list (pv 4) po_none (po_some (pv 5))) (pe_lst (pa_cons (pv 2) pa_nil))) (pe_slice sl_list (pv 4) (po_some (pv 5)) po_none)) pa_nil)))))))
      (pss_one (ps_set (i := 1) sc_law_orders.nd rfl (by first | exact Or.inl rfl | exact Or.inr rfl) (pv 3))))))
      (pss_one (ps_ret (pv 1))))), ?_⟩
    refine ⟨(by show 0 ≤ sizeLine; decide), fun a0 ha0 => ⟨(by show 1 ≤ sizeLine; decide), fun l0 hl0 => ?_⟩⟩
    have s0 := same_new ha0 (.lst [])
    have s1 := s0.trans (same_new hl0 (.lst [.ref a0]))
    have hne : a0 ≠ l0 := ne_of_none upd_same hl0
    refine ⟨_, rfl, _, rfl, (by (first | with_reducible assumption | lia | omega)), (by (first | with_reducible assumption | lia | omega)), for_range (lo := 0) (n := ((n : Nat) : Int).toNat)
      (fun i σ H2 => ∃ (v2 v3 v4 v5 : Option V) (l : Addr) (as : List Addr), σ = [some (.int (n : Int)), some (.ref l), v2, v3, v4, v5] ∧ Same H H2 ∧ H l = none ∧ H2 l = some (.lst (as.map V.ref)) ∧ Lsts H2 as (Cart.orders i))
      ⟨_, _, _, _, l0, [a0], rfl, s1, s0.free hl0, upd_same, rfl, ?_⟩ ?_ ?_⟩
    · intro i a e
      have hi : i = 0 := by
        rcases Nat.eq_zero_or_pos i with z | z
        · exact z
        · rw [List.getElem?_eq_none (by rw [List.length_singleton]; (first | with_reducible assumption | lia | omega))] at e
          cases e
      subst hi
      have ea : a0 = a := Option.some.inj e
      subst ea
      rw [upd_ne hne]
      exact upd_same
    · rintro i σ H2 hi ⟨v2, v3, v4, v5, l, as, rfl, s2, hl, e2, L2⟩
      have hi' : i < 6 := by (first | with_reducible assumption | lia | omega)
      have hsm := orders_small hi'
      have e0 : (0 : Int) + (i : Int) = i := by (first | with_reducible assumption | lia | omega)
      rw [e0]
      refine ⟨(by show 0 ≤ sizeLine; decide), fun lg hlg => ?_⟩
      have t0 := same_new hlg (.lst [])
      have hll : l ≠ lg := ne_of_none e2 hlg
      have hlgH : H lg = none := s2.free hlg
      have notin : lg ∉ as := fun z => by
        obtain ⟨t, _, e⟩ := L2.isLst z
        rw [hlg] at e
        cases e
      have llen := L2.len
      refine ⟨_, rfl, l, rfl, ⟨_, SqL.of (t0 _ _ e2)⟩, for_list (K := K) (a := l) (xs := as.map V.ref)
        (fun j σ H3 => ∃ (v4 v5 : Option V) (bs : List Addr), σ = [some (.int (n : Int)), some (.ref l), some (.int (i : Int)), some (.ref lg), v4, v5] ∧ Same H2 H3 ∧ H3 lg = some (.lst (bs.map V.ref)) ∧ Lsts H3 bs (ordTo i j)) ⟨_, _, [], rfl, t0, upd_same, rfl, fun i a e => by cases e⟩ (fun j σ H3 _ ⟨_, _, _, _, s, _, _⟩ => SqL.of (s _ _ e2)) ?_ ?_⟩
      · rintro j x σ H3 hj ⟨v4, v5, bs, rfl, s3, e3, L3⟩
        have hjl : j < as.length := by
          have := (List.getElem?_eq_some_iff.mp hj).1
          rw [List.length_map] at this
          exact this
        have ex : x = .ref as[j] := by
          rw [List.getElem?_map, List.getElem?_eq_getElem hjl] at hj
          exact (Option.some.inj hj).symm
        subst ex
        have hrow := L2.at_ j as[j] (List.getElem?_eq_getElem hjl)
        have hjo : j < (Cart.orders i).length := by (first | with_reducible assumption | lia | omega)
        have hrl : ((Cart.orders i).getD j []).length = i := by
          rw [List.getD_eq_getElem?_getD, List.getElem?_eq_getElem hjo]
          have p := Cart.orders_perm i _ (List.getElem_mem hjo)
          show ((Cart.orders i)[j]).length = i
          rw [p.length_eq, List.length_range]
        generalize hr0 : (Cart.orders i).getD j [] = row at hrow hrl
        generalize as[j] = ar at hrow ⊢
        refine ⟨_, rfl, _, _, rfl, rfl, (i : Int) + 1, rfl, (by (first | with_reducible assumption | lia | omega)), (by (first | with_reducible assumption | lia | omega)), for_range (lo := 0) (n := ((i : Int) + 1).toNat)
          (fun m σ H4 => ∃ (v5 : Option V) (cs : List Addr), σ = [some (.int (n : Int)), some (.ref l), some (.int (i : Int)), some (.ref lg), some (.ref ar), v5] ∧ Same H2 H4 ∧ H4 lg = some (.lst (cs.map V.ref)) ∧ Lsts H4 cs (ordTo i j ++ ins i row m)) ⟨_, bs, rfl, s3, e3, ?_⟩ ?_ ?_⟩
        · show Lsts H3 bs (ordTo i j ++ [])
          rw [List.append_nil]
          exact L3
        · rintro m σ H4 hm ⟨v5, cs, rfl, s4, e4, L4⟩
          have hm' : m ≤ i := by (first | with_reducible assumption | lia | omega)
          have e1 : (0 : Int) + (m : Int) = m := by (first | with_reducible assumption | lia | omega)
          rw [e1]
          have hrow4 := s4 _ _ hrow
          refine ⟨_, rfl, .inl ⟨rfl, _, SqL.of e4⟩, ?_⟩
          refine ⟨_, rfl, _, rfl, _, rfl, ar, _, rfl, SqL.of hrow4, fun c1 hc1 => ?_⟩
          rw [cutV_lo, ← List.map_take]
          have u1 := same_new hc1 (.lst ((row.take m).map nV))
          refine ⟨_, rfl, (by show 1 ≤ sizeLine; decide), fun c2 hc2 => ?_⟩
          have u2 := same_new hc2 (.lst [.int (i : Int)])
          refine ⟨c1, c2, _, _, rfl, rfl, u2 _ _ upd_same, upd_same, small (by rw [List.length_map, List.length_take]; show _ + 1 ≤ _; (first | with_reducible assumption | lia | omega)), fun c3 hc3 => ?_⟩
          have u3 := same_new hc3 (.lst ((row.take m).map nV ++ [.int (i : Int)]))
          have u13 := u1.trans (u2.trans u3)
          have g3 : (upd (upd (upd H4 c1 (.lst ((row.take m).map nV))) c2 (.lst [.int (i : Int)])) c3 (.lst ((row.take m).map nV ++ [.int (i : Int)]))) c3 = _ := upd_same
          generalize upd (upd (upd H4 c1 (.lst ((row.take m).map nV))) c2 (.lst [.int (i : Int)])) c3 (.lst ((row.take m).map nV ++ [.int (i : Int)])) = H5 at u13 g3 ⊢
          refine ⟨_, rfl, _, rfl, _, rfl, ar, _, rfl, SqL.of (u13 _ _ hrow4), fun c4 hc4 => ?_⟩
          rw [cutV_hi, ← List.map_drop]
          have u4 := same_new hc4 (.lst ((row.drop m).map nV))
          refine ⟨c3, c4, _, _, rfl, rfl, u4 _ _ g3, upd_same, small (by rw [List.length_append, List.length_map, List.length_map, List.length_take, List.length_drop]; show _ + 1 + _ ≤ _; (first | with_reducible assumption | lia | omega)), fun c5 hc5 => ?_⟩
          have ecat : (row.take m).map nV ++ [.int (i : Int)] ++ (row.drop m).map nV = (row.take m ++ i :: row.drop m).map nV := by
            rw [List.map_append, List.map_cons, List.append_assoc]
            rfl
          rw [ecat]
          have u5 := same_new hc5 (.lst ((row.take m ++ i :: row.drop m).map nV))
          have u15 := u13.trans (u4.trans u5)
          have g5 : (upd (upd H5 c4 (.lst ((row.drop m).map nV))) c5 (.lst ((row.take m ++ i :: row.drop m).map nV))) c5 = _ := upd_same
          generalize upd (upd H5 c4 (.lst ((row.drop m).map nV))) c5 (.lst ((row.take m ++ i :: row.drop m).map nV)) = H6 at u15 g5 hc5 ⊢
          have e6 := u15 _ _ e4
          have hcl := L4.len
          rw [List.length_append, ordTo_len, ins_len] at hcl
          have hb1 : min j (Cart.orders i).length * (i + 1) ≤ (Cart.orders i).length * (i + 1) := Nat.mul_le_mul_right _ (Nat.min_le_right _ _)
          refine ⟨lg, _, _, rfl, rfl, e6, small1000 (by rw [List.length_map]; (first | with_reducible assumption | lia | omega)), ?_⟩
          have hc5H4 : H4 c5 = none := by
            have z := u15.free (l := c5)
            have w : ∀ o, H4 c5 = some o → False := fun o e => by
              have hh := u13 _ _ e
              have hh2 := u4 _ _ hh
              rw [hc5] at hh2
              cases hh2
            cases e : H4 c5 with
            | none => rfl
            | some o => exact (w o e).elim
          have c5lg : c5 ≠ lg := (ne_of_none e4 hc5H4).symm
          have ea : cs.map V.ref ++ [V.ref c5] = (cs ++ [c5]).map V.ref := by rw [List.map_append]; rfl
          rw [ea]
          have lgcs : lg ∉ cs := fun z => by
            obtain ⟨t, _, e⟩ := L4.isLst z
            rw [e4] at e
            have := HO.lst.inj (Option.some.inj e)
            cases cs with
            | nil => cases z
            | cons c cs =>
              cases t with
              | nil => cases this
              | cons t0 t => have := (List.cons.inj this).1; cases this
          refine ⟨_, cs ++ [c5], rfl, fun b o z => ?_, upd_same, ?_⟩
          · rw [upd_ne (ne_of_none z hlg)]; exact u15 _ _ (s4 _ _ z)
          · rw [ins_snoc, ← List.append_assoc]
            refine Lsts.snoc (((L4.same u15)).to fun b hb => upd_ne (fun z => lgcs (z ▸ hb))) (by rw [upd_ne c5lg]; exact g5)
        · rintro σ H4 ⟨v5, cs, rfl, s4, e4, L4⟩
          have en : ((i : Int) + 1).toNat = i + 1 := by (first | with_reducible assumption | lia | omega)
          rw [en, ← hr0, ← ordTo_succ hjo] at L4
          exact ⟨_, _, cs, rfl, s4, e4, L4⟩
      · rintro σ H3 ⟨v4, v5, bs, rfl, s3, e3, L3⟩
        rw [List.length_map, llen, ordTo_all] at L3
        exact ⟨_, rfl, _, _, _, _, lg, bs, rfl, s2.trans s3, hlgH, e3, L3⟩
    · rintro σ H2 ⟨v2, v3, v4, v5, l, as, rfl, s2, hl, e2, L2⟩
      rw [Int.toNat_natCast] at L2
      exact ⟨_, rfl, q l H2 as s2 hl e2 L2⟩
theorem hu2_of {A : PySem.Around} {k : Nat} (hr : Room k A) : A.units + 2 < PySem.cLine := Nat.lt_of_le_of_lt (Nat.add_le_add_left (by decide : 2 ≤ 64) _) hr.units
noncomputable def toI (o : List Nat) : List Int := o.map fun x : Nat => (x : Int)
theorem toI_inj : ∀ {a b : List Nat}, toI a = toI b → a = b
  | [], [], _ => rfl
  | [], _ :: _, h => by cases h
  | _ :: _, [], h => by cases h
  | x :: a, y :: b, h => by
    have h1 : (x : Int) = (y : Int) := (List.cons.inj h).1
    have h2 : toI a = toI b := (List.cons.inj h).2
    rw [toI_inj h2, show x = y by (first | with_reducible assumption | lia | omega)]
theorem toI_len (o : List Nat) : (toI o).length = o.length := List.length_map _
theorem getD_toI (rows : List (List Nat)) (i : Nat) : (rows.map toI).getD i [] = toI (rows.getD i []) := by
  rw [List.getD_eq_getElem?_getD, List.getD_eq_getElem?_getD, List.getElem?_map]
  cases rows[i]? <;> rfl
theorem Lsts.cons {H : Hp} {as : List Addr} {rows : List (List Nat)} {a : Addr} {r : List Nat} (h : H a = some (.lst (r.map nV))) (L : Lsts H as rows) : Lsts H (a :: as) (r :: rows) := by
  refine ⟨by rw [List.length_cons, List.length_cons, L.len], fun i b e => ?_⟩
  cases i with
  | zero =>
    rw [← (Option.some.inj e : a = b)]
    exact h
  | succ i => exact L.at_ i b e
theorem Lsts.tail {H : Hp} {as : List Addr} {rows : List (List Nat)} {a : Addr} {r : List Nat} (L : Lsts H (a :: as) (r :: rows)) : Lsts H as rows := ⟨Nat.succ.inj L.len, fun i b e => L.at_ (i + 1) b e⟩
theorem Lsts.head {H : Hp} {as : List Addr} {rows : List (List Nat)} {a : Addr} {r : List Nat} (L : Lsts H (a :: as) (r :: rows)) : H a = some (.lst (r.map nV)) := L.at_ 0 a rfl
theorem Lsts.filt {H : Hp} {p : Addr → Bool} {q : List Nat → Bool} (hpq : ∀ (a : Addr) (r : List Nat), H a = some (.lst (r.map nV)) → p a = q r) : ∀ {as : List Addr} {rows : List (List Nat)}, Lsts H as rows → Lsts H (as.filter p) (rows.filter q)
  | [], [], _ => ⟨rfl, fun i b e => by cases e⟩
  | [], _ :: _, L => by cases L.len
  | _ :: _, [], L => by cases L.len
  | a :: as, r :: rows, L => by
    have t := Lsts.filt hpq L.tail
    have e := hpq a r L.head
    rw [List.filter_cons, List.filter_cons, e]
    cases q r with
    | true => exact t.cons L.head
    | false => exact t
theorem Lsts.rws {H : Hp} {as : List Addr} {rows : List (List Nat)} {m : Nat} (L : Lsts H as rows) (hs : ∀ r ∈ rows, r.length = m) (hn : rows.Nodup) : Rws H as (rows.map toI) m := by
  refine ⟨by rw [List.length_map]; exact L.len, fun i a e => ?_, fun r hr => ?_, ?_⟩
  · rw [getD_toI, L.at_ i a e, ints_nV]
    rfl
  · obtain ⟨o, ho, rfl⟩ := List.mem_map.mp hr
    rw [toI_len]
    exact hs o ho
  · exact List.pairwise_map.mpr (hn.imp fun {a b} hne e => hne (toI_inj e))
theorem map_getD (rows : List (List Nat)) : (List.range rows.length).map (fun i => rows.getD i []) = rows := by
  refine List.ext_getElem (by rw [List.length_map, List.length_range]) fun i h1 h2 => ?_
  rw [List.getElem_map, List.getElem_range, List.getD_eq_getElem?_getD, List.getElem?_eq_getElem h2]
  rfl
theorem Lsts.pick {H : Hp} {as : List Addr} {rows : List (List Nat)} {ps : List Nat} (L : Lsts H as rows) (h : ∀ i ∈ ps, i < as.length) : Lsts H (ps.map fun i => as.getD i 0) (ps.map fun i => rows.getD i []) := by
  refine ⟨by rw [List.length_map, List.length_map], fun i b e => ?_⟩
  rw [List.getElem?_map] at e
  rw [List.getD_eq_getElem?_getD, List.getElem?_map]
  cases hp : ps[i]? with
  | none => rw [hp] at e; cases e
  | some j =>
    rw [hp] at e
    have hj := h j (List.mem_of_getElem? hp)
    have ej : as.getD j 0 = b := Option.some.inj e
    rw [List.getD_eq_getElem?_getD, List.getElem?_eq_getElem hj] at ej
    exact L.at_ j b (by rw [List.getElem?_eq_getElem hj]; exact congrArg some ej)
theorem pick_sorted {rows : List (List Nat)} {ps : List Nat} (hp : ps.Perm (List.range rows.length)) (hw : (ps.map fun i => (rows.map toI).getD i []).Pairwise (fun x y => HT.lexLt x y = true)) :
    (ps.map fun i => rows.getD i []).Perm rows ∧ ((ps.map fun i => rows.getD i []).map toI).Pairwise (fun x y => HT.lexLt x y = true) := by
  refine ⟨?_, ?_⟩
  · have := hp.map fun i => rows.getD i []
    rw [map_getD] at this
    exact this
  · rw [List.map_map]
    have e : (toI ∘ fun i => rows.getD i []) = fun i => (rows.map toI).getD i [] := funext fun i => (getD_toI rows i).symm
    rw [e]
    exact hw
theorem sorted_same {A B : List (List Nat)} (h : A.Perm B) (ha : (A.map toI).Pairwise (fun x y => HT.lexLt x y = true)) (hb : (B.map toI).Pairwise (fun x y => HT.lexLt x y = true)) : A = B := by
  have e : A.map toI = B.map toI := List.Perm.eq_of_pairwise (fun a b _ _ h1 h2 => by
    have := lex_trans h1 h2
    rw [lex_irr] at this
    cases this) ha hb (h.map toI)
  have key : ∀ {A B : List (List Nat)}, A.map toI = B.map toI → A = B := fun {A} => by
    induction A with
    | nil =>
      intro B h
      cases B with
      | nil => rfl
      | cons b B => cases h
    | cons a A ih =>
      intro B h
      cases B with
      | nil => cases h
      | cons b B => rw [toI_inj (List.cons.inj h).1, ih (List.cons.inj h).2]
  exact key e
noncomputable def hasB (t : Cart.BT) (o : List Nat) : Bool := @decide (HasT o t) (Classical.propDecidable _)
theorem hasB_iff {t : Cart.BT} {o : List Nat} : hasB t o = true ↔ HasT o t := by
  unfold hasB
  exact @decide_eq_true_iff _ (Classical.propDecidable _)
noncomputable def dueL (t : Cart.BT) : List (List Nat) := (Cart.orders t.size).filter (hasB t)
theorem mem_dueL {t : Cart.BT} {o : List Nat} : o ∈ dueL t ↔ HasT o t := by
  unfold dueL
  rw [List.mem_filter, hasB_iff]
  exact ⟨fun h => h.2, fun h => ⟨Cart.perm_orders _ _ h.1, h⟩⟩
theorem dueL_nd (t : Cart.BT) : (dueL t).Nodup := List.Nodup.sublist List.filter_sublist (Cart.orders_nodup _)
theorem full_perm {t : Cart.BT} {F : List (List Nat)} (hm : F.map (ordNum t) = List.range (Cart.many t)) (hF : ∀ o ∈ F, HasT o t) : F.Perm (dueL t) := by
  have nd : F.Nodup := by
    have h : (F.map (ordNum t)).Nodup := by rw [hm]; exact List.nodup_range
    exact (List.pairwise_map.mp h).imp fun {a b} hne e => hne (by rw [e])
  refine (List.perm_ext_iff_of_nodup nd (dueL_nd t)).mpr fun o => ?_
  rw [mem_dueL]
  refine ⟨hF o, fun h => ?_⟩
  have hn : ordNum t o ∈ F.map (ordNum t) := by rw [hm]; exact List.mem_range.mpr (ordNum_lt h)
  obtain ⟨o', h1, h2⟩ := List.mem_map.mp hn
  rw [← ordNum_inj (hF o' h1) h h2]
  exact h1
theorem full_nd {t : Cart.BT} {F : List (List Nat)} (hm : F.map (ordNum t) = List.range (Cart.many t)) (hF : ∀ o ∈ F, HasT o t) : F.Nodup := (full_perm hm hF).nodup_iff.mpr (dueL_nd t)
theorem dueL_len (t : Cart.BT) : (dueL t).length = Cart.many t := by
  have ok := fun (k : Nat) (hk : k < Cart.many t) => Cart.ord_ok t (List.range t.size) k (range_lt _) List.length_range hk
  have h := full_perm (t := t) (F := (List.range (Cart.many t)).map fun k => Cart.ord t (List.range t.size) k) (by
    rw [List.map_map]
    refine List.ext_getElem (by rw [List.length_map]) fun i h1 h2 => ?_
    rw [List.getElem_map, List.getElem_range]
    exact (ok i (by rw [List.length_range] at h2; exact h2)).2.2) (fun o ho => by
    obtain ⟨k, hk, rfl⟩ := List.mem_map.mp ho
    have hok := ok k (List.mem_range.mp hk)
    have hlo : (Cart.ord t (List.range t.size) k).length = t.size := hok.2.1.len
    exact ⟨hok.1, (Cart.fit_iff t _ _ 0 hlo fun i _ => by rw [Nat.zero_add]).mpr hok.2.1⟩)
  rw [← h.length_eq, List.length_map, List.length_range]
noncomputable def manyTab (n : Nat) : Nat := [1, 1, 1, 2, 3, 8, 20].getD n 0
theorem manyTab_ok : ∀ l, l < 6 → ∀ r, r < 6 → l + r < 6 → Cart.choose (l + r) l * (manyTab l * manyTab r) ≤ manyTab (l + r + 1) := by decide
theorem many_tab : ∀ (t : Cart.BT), t.size ≤ 6 → Cart.many t ≤ manyTab t.size
  | .nil, _ => Nat.le_refl _
  | .node l r, h => by
    have hs : l.size + r.size + 1 ≤ 6 := h
    have h1 := many_tab l (by (first | with_reducible assumption | lia | omega))
    have h2 := many_tab r (by (first | with_reducible assumption | lia | omega))
    exact Nat.le_trans (Nat.mul_le_mul_left _ (Nat.mul_le_mul h1 h2)) (manyTab_ok l.size (by (first | with_reducible assumption | lia | omega)) r.size (by (first | with_reducible assumption | lia | omega)) (by (first | with_reducible assumption | lia | omega)))
theorem many_few {t : Cart.BT} (h : t.size ≤ 6) : Cart.many t ≤ 20 := by
  have h1 := many_tab t h
  have h2 : ∀ n, n ≤ 6 → manyTab n ≤ 20 := by decide
  exact Nat.le_trans h1 (h2 _ h)
theorem many_pos (t : Cart.BT) : 0 < Cart.many t := Cart.many_pos' t
noncomputable def keepO (H1 : Hp) (t : Cart.BT) (v : V) : Bool := @decide (∃ (a : Addr) (o : List Nat), v = .ref a ∧ H1 a = some (.lst (o.map nV)) ∧ HasT o t) (Classical.propDecidable _)
theorem keepO_iff {H1 : Hp} {t : Cart.BT} {v : V} : keepO H1 t v = true ↔ ∃ (a : Addr) (o : List Nat), v = .ref a ∧ H1 a = some (.lst (o.map nV)) ∧ HasT o t := by
  unfold keepO
  exact @decide_eq_true_iff _ (Classical.propDecidable _)
theorem keepO_at {H1 : Hp} {t : Cart.BT} {a : Addr} {o : List Nat} (h : H1 a = some (.lst (o.map nV))) : keepO H1 t (.ref a) = hasB t o := by
  rw [Bool.eq_iff_iff, keepO_iff, hasB_iff]
  refine ⟨fun ⟨a', o', e1, e2, e3⟩ => ?_, fun e => ⟨a, o, rfl, h, e⟩⟩
  cases e1
  rw [h] at e2
  rw [nVs_inj (HO.lst.inj (Option.some.inj e2))]
  exact e3
theorem tree_hasB {o : List Nat} {t : Cart.BT} (hp : o.Perm (List.range t.size)) : eqLs (tl (o.map fun x : Nat => (x : Int))) (bl t) = hasB t o := by
  rw [Bool.eq_iff_iff, hasB_iff]
  refine ⟨has_of_eq hp, fun h => ?_⟩
  rw [tl_has h]
  exact eqLs_self (bl_flat _)
theorem seqIfR {c : TT} {t r : TS} {D : Ends} {σ : St} {H : Hp} (i : Nat) (P : Addr → Hp → Prop) (hF : ∀ b H', P b H' → r D (σ.set i (some (.ref b))) H') (h : (∀ b H', P b H' → r D (σ.set i (some (.ref b))) H') → tSeq (tIfS c t tNext) r D σ H) : tSeq (tIfS c t tNext) r D σ H := h hF
theorem nV_flat (A : List Nat) : (A.map nV).all flatV = true := by
  rw [List.all_map, List.all_eq_true]; intro x _; rfl
inductive Isp_law (K : PySem.W.Frag) (vs : List V) (H : Hp) (Q : VK) : Prop where
  | mk (a : Addr) (ns : List Int) (h0 : vs = [.ref a]) (h1 : Scr K H a ns) (h2 : ns.length ≤ 63) (h3 : ∀ H', Q (.bl true) H') : Isp_law K vs H Q
noncomputable def sp_law (K : PySem.W.Frag) : Sp := fun vs H Q _ => Isp_law K vs H Q
theorem law_start {K : PySem.W.Frag} {H : Hp} {a : Addr} {ns : List Int} (hl : ns.length ≤ 63) (ho : Only H) (hS : SqL K H a (ns.map V.int)) : sp_law K [.ref a] H (fun v _ => v = .bl true) fun _ _ _ => False :=
  ⟨a, ns, rfl, Scr.of ho hS, hl, fun _ => rfl⟩
theorem d_law {f C : Addr} {fd : FuncData} (F : Fun K "law" "law" s_law f fd) (T : Txt K mg C) (D_law_row : Def P w K mg base 2 "_law_row" ["script", "at", "most"] (sp_law_row K C)) (D_law_tree : Def P w K mg base 1 "_law_tree" ["numbers"] (sp_law_tree K C)) (D_law_orders : Def P w K mg base 1 "_law_orders" ["size"] (sp_law_orders K C)) (D_many_orders : Def P w K mg base 45 "many_orders" ["tree"] (sp_many_orders K C)) (D_law_whole : Def P w K mg base 1 "_law_whole" ["found"] (sp_law_whole K C)) (D_order_at : Def P w K mg base 84 "order_at" ["tree", "number"] (sp_order_at K C)) (D_law_numbers : Def P w K mg base 2 "_law_numbers" ["found", "due"] (sp_law_numbers K C)) (D_order_number : Def P w K mg base 84 "order_number" ["tree", "order"] (sp_order_number K C)) : FnOk P w K mg base CX0 85 f fd ["script"] (sp_law K) := by
  refine F.ok sc_law (fun vs H Q E h => ?_) (fun cdv A outer s H vs Q E hr h => ?_)
  · obtain ⟨a, ns, rfl, _⟩ := h
    rfl
  · obtain ⟨a, ns, rfl, hS, hlen, q⟩ := h
    refine ⟨_, (pss_cons (ps_set (i := 1) sc_law.nd rfl (by first | exact Or.inl rfl | exact Or.inr rfl) (pe_def D_law_row (hr.mono (by decide)) (pa_cons (pv 0) (pa_cons pe_int (pa_cons pe_int pa_nil)))))
      (pss_cons (ps_if (pt_cmpR op_eq (pe_callB call_len_seq rfl T.z_len PySem.boot_len (pa_cons (pv 1) pa_nil)) pe_int (nomark _)) (pss_one (ps_set (i := 1) sc_law.nd rfl (by first | exact Or.inl rfl | exact Or.inr rfl) (pe_lst (pa_cons pe_int pa_nil)))) pss_nil)
      (pss_cons (ps_set (i := 2) sc_law.nd rfl (by first | exact Or.inl rfl | exact Or.inr rfl) (pe_def D_law_tree (hr.mono (by decide)) (pa_cons (pv 1) pa_nil)))
      (pss_cons (ps_set (i := 3) sc_law.nd rfl (by first | exact Or.inl rfl | exact Or.inr rfl) (pe_callB (call_sortedLL (hu2_of hr)) rfl T.z_sorted PyProof.Rows.boot_sorted (pa_cons (pe_comp ["tree"] [2]  (pi_list (pe_def D_law_orders (hr.mono (by decide)) (pa_cons (pe_callB call_len_seq rfl T.z_len PySem.boot_len (pa_cons (pv 2) pa_nil)) pa_nil))) (fun _ _ _ _ => (pts_one (pt_cmpR (op_eqSK (K := K) rfl hr.units0) (pe_def D_law_tree (hr.mono (by decide)) (pa_cons (pv 0) pa_nil)) (pv 1) (nomark _)))) (fun _ _ _ _ => (pv 0))) pa_nil)))
      (pss_cons (ps_set (i := 4) sc_law.nd rfl (by first | exact Or.inl rfl | exact Or.inr rfl) (pe_def D_many_orders (hr.mono (by decide)) (pa_cons (pe_callTy call_list_of rfl T.z_list PyProof.Rows.boot_list (pa_cons (pv 2) pa_nil)) pa_nil)))
      (pss_cons (ps_if (PW.pt (pw_or (pt_not (pt_val (pe_def D_law_whole (hr.mono (by decide)) (pa_cons (pv 4) pa_nil)))) (pw_or1 (pt_cmpR op_ne (pv 4) (pe_callB call_len_seq rfl T.z_len PySem.boot_len (pa_cons (pv 3) pa_nil)) (nomark _))))) (pss_one (ps_ret pe_bl)) pss_nil)
      (pss_cons (ps_set (i := 5) sc_law.nd rfl (by first | exact Or.inl rfl | exact Or.inr rfl) (pe_lst pa_nil))
      (pss_cons (ps_for PassesOwn.never rfl (pi_range1 rfl T.z_range (pa_cons (pv 4) pa_nil)) (pg_name (i := 6) sc_law.nd rfl (by first | exact Or.inl rfl | exact Or.inr rfl))
        (pss_cons (ps_set (i := 7) sc_law.nd rfl (by first | exact Or.inl rfl | exact Or.inr rfl) (pe_def D_order_at (hr.mono (by decide)) (pa_cons (pe_callTy call_list_of rfl T.z_list PyProof.Rows.boot_list (pa_cons (pv 2) pa_nil)) (pa_cons (pv 6) pa_nil))))
      (pss_cons (ps_if (pt_not (pt_val (pe_def D_law_numbers (hr.mono (by decide)) (pa_cons (pv 7) (pa_cons (pe_callTy call_list_of rfl T.z_list PyProof.Rows.boot_list (pa_cons (pv 7) pa_nil)) pa_nil))))) (pss_one (ps_ret pe_bl)) pss_nil)
      (pss_cons (ps_set (i := 8) sc_law.nd rfl (by first | exact Or.inl rfl | exact Or.inr rfl) (pe_def D_order_number (hr.mono (by decide)) (pa_cons (pe_callTy call_list_of rfl T.z_list PyProof.Rows.boot_list (pa_cons (pv 2) pa_nil)) (pa_cons (pe_callTy call_list_of rfl T.z_list PyProof.Rows.boot_list (pa_cons (pv 7) pa_nil)) pa_nil))))
      (pss_cons (ps_if (PW.pt (pw_or (pt_not (pt_val (pe_def D_law_whole (hr.mono (by decide)) (pa_cons (pv 8) pa_nil)))) (pw_or1 (pt_cmpR op_ne (pv 8) (pv 6) (nomark _))))) (pss_one (ps_ret pe_bl)) pss_nil)
      (pss_one (ps_expr (pe_bm PySem.F.plainAttrs_list PySem.F.slot_list_append PySem.F.type_list_append mt_append (pv 5) (pa_cons (pv 7) pa_nil)))))))))
      (pss_one (ps_ret (pe_cmpR (op_eqN (hu_of hr)) (pe_callB (call_sortedLL (hu2_of hr)) rfl T.z_sorted PyProof.Rows.boot_sorted (pa_cons (pv 5) pa_nil)) (pv 3) (nomark _)))))))))))), ?_⟩
    refine ⟨_, rfl, a, ns, 0, 6, rfl, hS, hlen, (by decide), (by decide), (by decide), (by decide), fun b1 H1 ms1 s1 _ hb1 hm1 => ?_⟩
    have S1 := hS.same s1
    try dsimp only [gName]
    refine seqIfR 1 (fun b H' => Scr K H' a ns ∧ ∃ ms : List Int, H' b = some (.lst (ms.map V.int)) ∧ ms.length ≤ 6 ∧ 0 < ms.length) ?_ fun hF => ?_
    rotate_left
    · refine ⟨_, rfl, b1, _, rfl, .inl (SqL.of hb1), rfl, _, rfl, ite2 (fun c => ?_) (fun c => ?_)⟩
      · refine ⟨(by show 1 ≤ sizeLine; decide), fun b2 hb2 => ?_⟩
        exact hF b2 _ ⟨S1.same (same_new hb2 _), [5], upd_same, by decide, by decide⟩
      · have hpos : 0 < ms1.length := by
          rcases Nat.eq_zero_or_pos ms1.length with e | e
          · exact absurd (decide_eq_true (by rw [List.length_map, e]; rfl)) c
          · exact e
        exact hF b1 _ ⟨S1, ms1, hb1, by (first | with_reducible assumption | lia | omega), hpos⟩
    rintro b H2 ⟨S2, ms, hb, hm, hpos⟩
    refine ⟨_, rfl, b, ms, rfl, SqL.of hb, (by (first | with_reducible assumption | lia | omega)), fun tr H3 s3 _ e3 => ?_⟩
    have hts : (Cart.tree (gn ms) 0 ms.length).size = ms.length := Cart.tree_size _ _ _
    rw [tl_bl] at e3
    generalize Cart.tree (gn ms) 0 ms.length = t at e3 hts
    have hfew := many_few (t := t) (by (first | with_reducible assumption | lia | omega))
    have hpo := many_pos t
    have hdl := dueL_len t
    refine ⟨_, rfl, tr, _, rfl, .inl (SqL.of e3), t.size, (by rw [bl_len]; rfl), (by (first | with_reducible assumption | lia | omega)), fun l H4 as s4 _ e4 L4 => ?_⟩
    have hol := orders_len t.size
    have hof := fact6 t.size (by (first | with_reducible assumption | lia | omega))
    have hlen4 := L4.len
    refine ⟨l, rfl, ⟨_, SqL.of e4⟩, ?_⟩
    refine comp_listG (keepO H4 t) (fun x => x) (by rw [List.length_map]; (first | with_reducible assumption | lia | omega)) (SqL.of e4) (fun x H5 Q' hx2 t1 q' => ?_) (fun x H5 Q' hx2 _ t1 q' => ⟨_, rfl, q' _ (Same.refl _)⟩) fun D H5 s5 hD e5 => ?_
    · obtain ⟨ar, har, rfl⟩ := List.mem_map.mp hx2
      obtain ⟨o, ho, eo⟩ := L4.isLst har
      have ek := keepO_at (t := t) eo
      have hop := Cart.orders_perm _ o ho
      rw [ints_nV] at eo
      have hoL : (o.map fun x : Nat => (x : Int)).length = t.size := by rw [List.length_map, hop.length_eq, List.length_range]
      refine ⟨_, rfl, ar, _, rfl, SqL.of (t1 _ _ eo), (by (first | with_reducible assumption | lia | omega)), fun lt H6 t2 _ e6 => ?_⟩
      refine ⟨_, rfl, lt, tr, _, _, rfl, rfl, .inl ⟨SqL.of e6, SqL.of (t2 _ _ (t1 _ _ (s4 _ _ e3)))⟩, tl_flat _, bl_flat _, _, rfl, ?_⟩
      rw [tree_hasB hop, ← ek]
      exact q' _ t2
    rw [List.map_id', List.filter_map] at e5
    have L5 : Lsts H5 (as.filter (keepO H4 t ∘ V.ref)) (dueL t) := (L4.filt (q := hasB t) fun a' r h => keepO_at h).same s5
    generalize as.filter (keepO H4 t ∘ V.ref) = as' at e5 L5
    have hl5 := L5.len
    have dsz : ∀ r ∈ dueL t, r.length = t.size := fun r hr => (mem_dueL.mp hr).len
    refine ⟨D, as', _, t.size, rfl, SqL.of e5, L5.rws dsz (dueL_nd t), (by (first | with_reducible assumption | lia | omega)), (by (first | with_reducible assumption | lia | omega)), fun du ps hdu hps hpw => ?_⟩
    rw [hl5] at hps
    have hin : ∀ i ∈ ps, i < as'.length := fun i hi => by rw [hl5]; exact List.mem_range.mp (hps.mem_iff.mp hi)
    obtain ⟨pp, pw⟩ := pick_sorted hps hpw
    have s6 := same_new hdu (.lst (ps.map fun i => V.ref (as'.getD i 0)))
    have L6 := (L5.pick hin).same s6
    have e6 : (upd H5 du (.lst (ps.map fun i => V.ref (as'.getD i 0)))) du = some (.lst ((ps.map fun i => as'.getD i 0).map V.ref)) := by rw [upd_same, List.map_map]; rfl
    generalize upd H5 du (.lst (ps.map fun i => V.ref (as'.getD i 0))) = H6 at s6 L6 e6 ⊢
    generalize (ps.map fun i => as'.getD i 0) = dA at L6 e6
    generalize (ps.map fun i => (dueL t).getD i []) = dR at L6 pp pw
    have et6 := s6 _ _ (s5 _ _ (s4 _ _ e3))
    have hdlen : dA.length = Cart.many t := by rw [L6.len, pp.length_eq, hdl]
    try dsimp only [gName, List.set]
    refine ⟨_, rfl, tr, _, rfl, .inl (SqL.of et6), fun c1 hc1 => ?_⟩
    have s7 := same_new hc1 (.lst (bl t))
    refine ⟨c1, t, rfl, upd_same, (by (first | with_reducible assumption | lia | omega)), (by (first | with_reducible assumption | lia | omega)), fun H8 s8 => ?_⟩
    have s68 := s7.trans s8
    have et8 := s68 _ _ et6
    have ed8 := s68 _ _ e6
    have L8 := L6.same s68
    try dsimp only [gName, List.set]
    refine ⟨_, rfl, _, rfl, _, rfl, iteF ?_⟩
    refine ⟨_, rfl, _, rfl, du, _, rfl, .inl (SqL.of ed8), rfl, _, rfl, ?_⟩
    rw [decide_eq_true (show V.int (Cart.many t : Nat) = V.int (((dA.map V.ref).length : Nat) : Int) by rw [List.length_map, hdlen])]
    refine iteF ?_
    refine ⟨(by show 0 ≤ sizeLine; decide), fun fo hfo => ?_⟩
    have s9 := same_new hfo (.lst [])
    try dsimp only [gName, List.set]
    refine ⟨_, rfl, _, rfl, (by (first | with_reducible assumption | lia | omega)), (by (first | with_reducible assumption | lia | omega)), for_range (lo := 0) (n := ((Cart.many t : Nat) : Int).toNat)
      (fun i σ H9 => ∃ (v6 v7 v8 : Option V) (fA : List Addr) (F : List (List Nat)), σ = [some (.ref a), some (.ref b), some (.ref tr), some (.ref du), some (.int (Cart.many t : Nat)), some (.ref fo), v6, v7, v8] ∧ Same H8 H9 ∧ H9 fo = some (.lst (fA.map V.ref)) ∧ Lsts H9 fA F ∧ F.map (ordNum t) = List.range i ∧ ∀ o ∈ F, HasT o t)
      ⟨_, _, _, [], [], rfl, s9, upd_same, ⟨rfl, fun i b e => by cases e⟩, rfl, fun o h => by cases h⟩ ?_ ?_⟩
    · rintro i σ H9 hi ⟨v6, v7, v8, fA, F, rfl, s9, e9, L9, hF, hT⟩
      have hi' : i < Cart.many t := by (first | with_reducible assumption | lia | omega)
      have e0 : (0 : Int) + (i : Int) = i := by (first | with_reducible assumption | lia | omega)
      rw [e0]
      have et9 := s9 _ _ et8
      have hFl : fA.length = i := by
        rw [L9.len, ← List.length_map (f := ordNum t) (as := F), hF, List.length_range]
      refine ⟨_, rfl, tr, _, rfl, .inl (SqL.of et9), fun c2 hc2 => ?_⟩
      have t1 := same_new hc2 (.lst (bl t))
      refine ⟨_, rfl, c2, t, i, rfl, upd_same, (by (first | with_reducible assumption | lia | omega)), (by (first | with_reducible assumption | lia | omega)), hi', fun rw_ H11 o t2 hrw er ho hno => ?_⟩
      have t12 := t1.trans t2
      have hrw9 := t1.free hrw
      have er' := er
      rw [ints_nV] at er'
      try dsimp only [gName, List.set]
      refine ⟨_, rfl, _, rfl, rw_, _, rfl, .inl (SqL.of er'), fun rc hrc => ?_⟩
      have t3 := same_new hrc (.lst ((o.map fun x : Nat => (x : Int)).map V.int))
      refine ⟨rw_, rc, _, rfl, t3 _ _ er', upd_same, _, rfl, iteF ?_⟩
      generalize upd H11 rc (.lst ((o.map fun x : Nat => (x : Int)).map V.int)) = H12 at t3 ⊢
      have t13 := t12.trans t3
      refine ⟨_, rfl, tr, _, rfl, .inl (SqL.of (t13 _ _ et9)), fun c3 hc3 => ?_⟩
      have t4 := same_new hc3 (.lst (bl t))
      refine ⟨_, rfl, rw_, _, rfl, .inl (SqL.of (t4 _ _ (t3 _ _ er))), fun c4 hc4 => ?_⟩
      have t5 := same_new hc4 (.lst (o.map nV))
      refine ⟨c3, c4, t, o, rfl, t5 _ _ upd_same, upd_same, (by (first | with_reducible assumption | lia | omega)), (by (first | with_reducible assumption | lia | omega)), ho.1, fun _ H13 t6 => ?_, fun z => absurd ho z⟩
      try dsimp only [gName, List.set]
      refine ⟨_, rfl, _, rfl, _, rfl, iteF ?_⟩
      refine ⟨_, rfl, _, rfl, rfl, _, rfl, ?_⟩
      rw [decide_eq_true (show V.int (ordNum t o : Nat) = V.int (i : Int) by rw [hno])]
      refine iteF ?_
      have t36 := t3.trans (t4.trans (t5.trans t6))
      have t16 := t12.trans t36
      have e13 := t16 _ _ e9
      have er13 := t36 _ _ er
      have hne : rw_ ≠ fo := fun z => by rw [z, e9] at hrw9; cases hrw9
      refine ⟨_, rfl, .inl ⟨rfl, _, SqL.of e13⟩, _, rfl, fo, _, _, rfl, rfl, e13, small1000 (by rw [List.length_map]; (first | with_reducible assumption | lia | omega)), ?_⟩
      have hfa : fo ∉ fA := fun z => by
        obtain ⟨r, _, e⟩ := L9.isLst z
        rw [e9] at e
        have := HO.lst.inj (Option.some.inj e)
        cases fA with
        | nil => cases z
        | cons c cs =>
          cases r with
          | nil => cases this
          | cons t0 t => have := (List.cons.inj this).1; cases this
      refine ⟨_, _, _, fA ++ [rw_], F ++ [o], rfl, fun c o' z => ?_, ?_, ?_, ?_, ?_⟩
      · rw [upd_ne (ne_of_none z hfo)]; exact t16 _ _ (s9 _ _ z)
      · rw [upd_same, List.map_append]; rfl
      · exact Lsts.snoc ((L9.same t16).to fun b' hb' => upd_ne (fun z => hfa (z ▸ hb'))) (by rw [upd_ne hne]; exact er13)
      · rw [List.map_append, hF, List.range_succ, List.map_singleton, hno]
      · intro o' ho'
        rcases List.mem_append.mp ho' with h | h
        · exact hT o' h
        · rw [List.mem_singleton.mp h]; exact ho
    · rintro σ H9 ⟨v6, v7, v8, fA, F, rfl, s9, e9, L9, hF, hT⟩
      rw [Int.toNat_natCast] at hF
      have fp := full_perm hF hT
      have hfl := fp.length_eq
      have hfl2 := L9.len
      refine ⟨_, rfl, fo, fA, _, t.size, rfl, SqL.of e9, L9.rws (fun r hr => (hT r hr).len) (full_nd hF hT), (by (first | with_reducible assumption | lia | omega)), (by (first | with_reducible assumption | lia | omega)), fun so qs hso hqs hqw => ?_⟩
      rw [hfl2] at hqs
      have hin2 : ∀ i ∈ qs, i < fA.length := fun i hi => by rw [hfl2]; exact List.mem_range.mp (hqs.mem_iff.mp hi)
      obtain ⟨fpp, fpw⟩ := pick_sorted hqs hqw
      have s10 := same_new hso (.lst (qs.map fun i => V.ref (fA.getD i 0)))
      have L10 := (L9.pick hin2).same s10
      have e10 : (upd H9 so (.lst (qs.map fun i => V.ref (fA.getD i 0)))) so = some (.lst ((qs.map fun i => fA.getD i 0).map V.ref)) := by rw [upd_same, List.map_map]; rfl
      generalize upd H9 so (.lst (qs.map fun i => V.ref (fA.getD i 0))) = H10 at s10 L10 e10 ⊢
      generalize (qs.map fun i => fA.getD i 0) = sA at L10 e10
      generalize (qs.map fun i => F.getD i []) = sR at L10 fpp fpw
      have eR : sR = dR := sorted_same (fpp.trans (fp.trans pp.symm)) fpw pw
      subst eR
      have s810 := s9.trans s10
      have L8' := L8.same s810
      refine ⟨_, rfl, so, du, sA, dA, rfl, rfl, ⟨SqL.of e10, SqL.of (s810 _ _ ed8), by rw [L10.len, L8'.len], fun i c d ec ed => ?_⟩, q _⟩
      exact ⟨_, SqL.of (L10.at_ i c ec), SqL.of (L8'.at_ i d ed), nV_flat _⟩
end
theorem all_mk {l : PySem.W.OpenLaw} {w : World} {K : PySem.W.Frag} {h : Heap} {mg : Str → Option Value} {fa C : Addr} (X : K.In h) (G : h.Ns mainGlobals mg) (hfa : mg "law" = some (.ref fa)) {t_MOST_NUMBERS : Tok} {c_NoOrder : Addr}
    {f1 : Addr} {od1 an1 : Option Addr} {sl1 : Array (Option Value)} {oc1 kV1 dc1 pm1 cd1 ct1 : Value}
    {f2 : Addr} {od2 an2 : Option Addr} {sl2 : Array (Option Value)} {oc2 kV2 dc2 pm2 cd2 ct2 : Value}
    {f3 : Addr} {od3 an3 : Option Addr} {sl3 : Array (Option Value)} {oc3 kV3 dc3 pm3 cd3 ct3 : Value}
    {f4 : Addr} {od4 an4 : Option Addr} {sl4 : Array (Option Value)} {oc4 kV4 dc4 pm4 cd4 ct4 : Value}
    {f5 : Addr} {od5 an5 : Option Addr} {sl5 : Array (Option Value)} {oc5 kV5 dc5 pm5 cd5 ct5 : Value}
    {f6 : Addr} {od6 an6 : Option Addr} {sl6 : Array (Option Value)} {oc6 kV6 dc6 pm6 cd6 ct6 : Value}
    {f7 : Addr} {od7 an7 : Option Addr} {sl7 : Array (Option Value)} {oc7 kV7 dc7 pm7 cd7 ct7 : Value}
    {f8 : Addr} {od8 an8 : Option Addr} {sl8 : Array (Option Value)} {oc8 kV8 dc8 pm8 cd8 ct8 : Value}
    {f9 : Addr} {od9 an9 : Option Addr} {sl9 : Array (Option Value)} {oc9 kV9 dc9 pm9 cd9 ct9 : Value}
    {f10 : Addr} {od10 an10 : Option Addr} {sl10 : Array (Option Value)} {oc10 kV10 dc10 pm10 cd10 ct10 : Value}
    {f11 : Addr} {od11 an11 : Option Addr} {sl11 : Array (Option Value)} {oc11 kV11 dc11 pm11 cd11 ct11 : Value}
    {f12 : Addr} {od12 an12 : Option Addr} {sl12 : Array (Option Value)} {oc12 kV12 dc12 pm12 cd12 ct12 : Value}
    {f13 : Addr} {od13 an13 : Option Addr} {sl13 : Array (Option Value)} {oc13 kV13 dc13 pm13 cd13 ct13 : Value}
    {f14 : Addr} {od14 an14 : Option Addr} {sl14 : Array (Option Value)} {oc14 kV14 dc14 pm14 cd14 ct14 : Value}
    {f15 : Addr} {od15 an15 : Option Addr} {sl15 : Array (Option Value)} {oc15 kV15 dc15 pm15 cd15 ct15 : Value}
    {f16 : Addr} {od16 an16 : Option Addr} {sl16 : Array (Option Value)} {oc16 kV16 dc16 pm16 cd16 ct16 : Value}
    {f17 : Addr} {od17 an17 : Option Addr} {sl17 : Array (Option Value)} {oc17 kV17 dc17 pm17 cd17 ct17 : Value}
    {f18 : Addr} {od18 an18 : Option Addr} {sl18 : Array (Option Value)} {oc18 kV18 dc18 pm18 cd18 ct18 : Value}
    {f19 : Addr} {od19 an19 : Option Addr} {sl19 : Array (Option Value)} {oc19 kV19 dc19 pm19 cd19 ct19 : Value}
    {f20 : Addr} {od20 an20 : Option Addr} {sl20 : Array (Option Value)} {oc20 kV20 dc20 pm20 cd20 ct20 : Value}
    {f21 : Addr} {od21 an21 : Option Addr} {sl21 : Array (Option Value)} {oc21 kV21 dc21 pm21 cd21 ct21 : Value}
    {f22 : Addr} {od22 an22 : Option Addr} {sl22 : Array (Option Value)} {oc22 kV22 dc22 pm22 cd22 ct22 : Value}
    {f23 : Addr} {od23 an23 : Option Addr} {sl23 : Array (Option Value)} {oc23 kV23 dc23 pm23 cd23 ct23 : Value}
    {f24 : Addr} {od24 an24 : Option Addr} {sl24 : Array (Option Value)} {oc24 kV24 dc24 pm24 cd24 ct24 : Value}
    {f25 : Addr} {od25 an25 : Option Addr} {sl25 : Array (Option Value)} {oc25 kV25 dc25 pm25 cd25 ct25 : Value}
    {f26 : Addr} {od26 an26 : Option Addr} {sl26 : Array (Option Value)} {oc26 kV26 dc26 pm26 cd26 ct26 : Value}
    {f27 : Addr} {od27 an27 : Option Addr} {sl27 : Array (Option Value)} {oc27 kV27 dc27 pm27 cd27 ct27 : Value}
    {f28 : Addr} {od28 an28 : Option Addr} {sl28 : Array (Option Value)} {oc28 kV28 dc28 pm28 cd28 ct28 : Value}
    {f29 : Addr} {od29 an29 : Option Addr} {sl29 : Array (Option Value)} {oc29 kV29 dc29 pm29 cd29 ct29 : Value}
    {f30 : Addr} {od30 an30 : Option Addr} {sl30 : Array (Option Value)} {oc30 kV30 dc30 pm30 cd30 ct30 : Value}
    (a1 : PySem.W.nsIn K mainGlobals "check_size" = some (some (.ref f1)))
    (l1 : K.lookup f1 = some ⟨oc1, od1, .func (PySem.W.fnOf "check_size" "check_size" (defArgs s_check_size) (defBody s_check_size) (defScope s_check_size) .none kV1 dc1 pm1 an1 cd1 ct1), sl1⟩) (c1 : PySem.W.codeIn K cd1 "check_size" = true) (k1 : PySem.W.keepIn K (.ref f1) = true)
    (a2 : PySem.W.nsIn K mainGlobals "check_stretch" = some (some (.ref f2)))
    (l2 : K.lookup f2 = some ⟨oc2, od2, .func (PySem.W.fnOf "check_stretch" "check_stretch" (defArgs s_check_stretch) (defBody s_check_stretch) (defScope s_check_stretch) .none kV2 dc2 pm2 an2 cd2 ct2), sl2⟩) (c2 : PySem.W.codeIn K cd2 "check_stretch" = true) (k2 : PySem.W.keepIn K (.ref f2) = true)
    (a3 : PySem.W.findIn K (.ref C) "__init__" = some (some (.ref f3))) (i3 : PySem.W.isFn K (.ref f3) = true)
    (l3 : K.lookup f3 = some ⟨oc3, od3, .func (PySem.W.fnOf "__init__" "Row.__init__" (defArgs s_Row_init) (defBody s_Row_init) (defScope s_Row_init) .none kV3 dc3 pm3 an3 cd3 ct3), sl3⟩) (c3 : PySem.W.codeIn K cd3 "Row.__init__" = true) (k3 : PySem.W.keepIn K (.ref f3) = true)
    (a4 : PySem.W.findIn K (.ref C) "numbers" = some (some (.ref f4))) (i4 : PySem.W.isFn K (.ref f4) = true)
    (l4 : K.lookup f4 = some ⟨oc4, od4, .func (PySem.W.fnOf "numbers" "Row.numbers" (defArgs s_Row_numbers) (defBody s_Row_numbers) (defScope s_Row_numbers) .none kV4 dc4 pm4 an4 cd4 ct4), sl4⟩) (c4 : PySem.W.codeIn K cd4 "Row.numbers" = true) (k4 : PySem.W.keepIn K (.ref f4) = true)
    (a5 : PySem.W.nsIn K mainGlobals "least" = some (some (.ref f5)))
    (l5 : K.lookup f5 = some ⟨oc5, od5, .func (PySem.W.fnOf "least" "least" (defArgs s_least) (defBody s_least) (defScope s_least) .none kV5 dc5 pm5 an5 cd5 ct5), sl5⟩) (c5 : PySem.W.codeIn K cd5 "least" = true) (k5 : PySem.W.keepIn K (.ref f5) = true)
    (a6 : PySem.W.nsIn K mainGlobals "tree_over" = some (some (.ref f6)))
    (l6 : K.lookup f6 = some ⟨oc6, od6, .func (PySem.W.fnOf "tree_over" "tree_over" (defArgs s_tree_over) (defBody s_tree_over) (defScope s_tree_over) .none kV6 dc6 pm6 an6 cd6 ct6), sl6⟩) (c6 : PySem.W.codeIn K cd6 "tree_over" = true) (k6 : PySem.W.keepIn K (.ref f6) = true)
    (a7 : PySem.W.nsIn K mainGlobals "tree_of" = some (some (.ref f7)))
    (l7 : K.lookup f7 = some ⟨oc7, od7, .func (PySem.W.fnOf "tree_of" "tree_of" (defArgs s_tree_of) (defBody s_tree_of) (defScope s_tree_of) .none kV7 dc7 pm7 an7 cd7 ct7), sl7⟩) (c7 : PySem.W.codeIn K cd7 "tree_of" = true) (k7 : PySem.W.keepIn K (.ref f7) = true)
    (a8 : PySem.W.nsIn K mainGlobals "head_under" = some (some (.ref f8)))
    (l8 : K.lookup f8 = some ⟨oc8, od8, .func (PySem.W.fnOf "head_under" "head_under" (defArgs s_head_under) (defBody s_head_under) (defScope s_head_under) .none kV8 dc8 pm8 an8 cd8 ct8), sl8⟩) (c8 : PySem.W.codeIn K cd8 "head_under" = true) (k8 : PySem.W.keepIn K (.ref f8) = true)
    (a9 : PySem.W.nsIn K mainGlobals "is_part" = some (some (.ref f9)))
    (l9 : K.lookup f9 = some ⟨oc9, od9, .func (PySem.W.fnOf "is_part" "is_part" (defArgs s_is_part) (defBody s_is_part) (defScope s_is_part) .none kV9 dc9 pm9 an9 cd9 ct9), sl9⟩) (c9 : PySem.W.codeIn K cd9 "is_part" = true) (k9 : PySem.W.keepIn K (.ref f9) = true)
    (a10 : PySem.W.nsIn K mainGlobals "is_tree" = some (some (.ref f10)))
    (l10 : K.lookup f10 = some ⟨oc10, od10, .func (PySem.W.fnOf "is_tree" "is_tree" (defArgs s_is_tree) (defBody s_is_tree) (defScope s_is_tree) .none kV10 dc10 pm10 an10 cd10 ct10), sl10⟩) (c10 : PySem.W.codeIn K cd10 "is_tree" = true) (k10 : PySem.W.keepIn K (.ref f10) = true)
    (a11 : PySem.W.nsIn K mainGlobals "check_tree" = some (some (.ref f11)))
    (l11 : K.lookup f11 = some ⟨oc11, od11, .func (PySem.W.fnOf "check_tree" "check_tree" (defArgs s_check_tree) (defBody s_check_tree) (defScope s_check_tree) .none kV11 dc11 pm11 an11 cd11 ct11), sl11⟩) (c11 : PySem.W.codeIn K cd11 "check_tree" = true) (k11 : PySem.W.keepIn K (.ref f11) = true)
    (a12 : PySem.W.nsIn K mainGlobals "check_number" = some (some (.ref f12)))
    (l12 : K.lookup f12 = some ⟨oc12, od12, .func (PySem.W.fnOf "check_number" "check_number" (defArgs s_check_number) (defBody s_check_number) (defScope s_check_number) .none kV12 dc12 pm12 an12 cd12 ct12), sl12⟩) (c12 : PySem.W.codeIn K cd12 "check_number" = true) (k12 : PySem.W.keepIn K (.ref f12) = true)
    (a13 : PySem.W.nsIn K mainGlobals "ways_to_take" = some (some (.ref f13)))
    (l13 : K.lookup f13 = some ⟨oc13, od13, .func (PySem.W.fnOf "ways_to_take" "ways_to_take" (defArgs s_ways_to_take) (defBody s_ways_to_take) (defScope s_ways_to_take) .none kV13 dc13 pm13 an13 cd13 ct13), sl13⟩) (c13 : PySem.W.codeIn K cd13 "ways_to_take" = true) (k13 : PySem.W.keepIn K (.ref f13) = true)
    (a14 : PySem.W.nsIn K mainGlobals "many_in_part" = some (some (.ref f14)))
    (l14 : K.lookup f14 = some ⟨oc14, od14, .func (PySem.W.fnOf "many_in_part" "many_in_part" (defArgs s_many_in_part) (defBody s_many_in_part) (defScope s_many_in_part) .none kV14 dc14 pm14 an14 cd14 ct14), sl14⟩) (c14 : PySem.W.codeIn K cd14 "many_in_part" = true) (k14 : PySem.W.keepIn K (.ref f14) = true)
    (a15 : PySem.W.nsIn K mainGlobals "many_orders" = some (some (.ref f15)))
    (l15 : K.lookup f15 = some ⟨oc15, od15, .func (PySem.W.fnOf "many_orders" "many_orders" (defArgs s_many_orders) (defBody s_many_orders) (defScope s_many_orders) .none kV15 dc15 pm15 an15 cd15 ct15), sl15⟩) (c15 : PySem.W.codeIn K cd15 "many_orders" = true) (k15 : PySem.W.keepIn K (.ref f15) = true)
    (a16 : PySem.W.nsIn K mainGlobals "parting_at" = some (some (.ref f16)))
    (l16 : K.lookup f16 = some ⟨oc16, od16, .func (PySem.W.fnOf "parting_at" "parting_at" (defArgs s_parting_at) (defBody s_parting_at) (defScope s_parting_at) .none kV16 dc16 pm16 an16 cd16 ct16), sl16⟩) (c16 : PySem.W.codeIn K cd16 "parting_at" = true) (k16 : PySem.W.keepIn K (.ref f16) = true)
    (a17 : PySem.W.nsIn K mainGlobals "parting_number" = some (some (.ref f17)))
    (l17 : K.lookup f17 = some ⟨oc17, od17, .func (PySem.W.fnOf "parting_number" "parting_number" (defArgs s_parting_number) (defBody s_parting_number) (defScope s_parting_number) .none kV17 dc17 pm17 an17 cd17 ct17), sl17⟩) (c17 : PySem.W.codeIn K cd17 "parting_number" = true) (k17 : PySem.W.keepIn K (.ref f17) = true)
    (a18 : PySem.W.nsIn K mainGlobals "order_in_part" = some (some (.ref f18)))
    (l18 : K.lookup f18 = some ⟨oc18, od18, .func (PySem.W.fnOf "order_in_part" "order_in_part" (defArgs s_order_in_part) (defBody s_order_in_part) (defScope s_order_in_part) .none kV18 dc18 pm18 an18 cd18 ct18), sl18⟩) (c18 : PySem.W.codeIn K cd18 "order_in_part" = true) (k18 : PySem.W.keepIn K (.ref f18) = true)
    (a19 : PySem.W.nsIn K mainGlobals "order_at" = some (some (.ref f19)))
    (l19 : K.lookup f19 = some ⟨oc19, od19, .func (PySem.W.fnOf "order_at" "order_at" (defArgs s_order_at) (defBody s_order_at) (defScope s_order_at) .none kV19 dc19 pm19 an19 cd19 ct19), sl19⟩) (c19 : PySem.W.codeIn K cd19 "order_at" = true) (k19 : PySem.W.keepIn K (.ref f19) = true)
    (a20 : PySem.W.nsIn K mainGlobals "check_order" = some (some (.ref f20)))
    (l20 : K.lookup f20 = some ⟨oc20, od20, .func (PySem.W.fnOf "check_order" "check_order" (defArgs s_check_order) (defBody s_check_order) (defScope s_check_order) .none kV20 dc20 pm20 an20 cd20 ct20), sl20⟩) (c20 : PySem.W.codeIn K cd20 "check_order" = true) (k20 : PySem.W.keepIn K (.ref f20) = true)
    (a21 : PySem.W.nsIn K mainGlobals "number_in_part" = some (some (.ref f21)))
    (l21 : K.lookup f21 = some ⟨oc21, od21, .func (PySem.W.fnOf "number_in_part" "number_in_part" (defArgs s_number_in_part) (defBody s_number_in_part) (defScope s_number_in_part) .none kV21 dc21 pm21 an21 cd21 ct21), sl21⟩) (c21 : PySem.W.codeIn K cd21 "number_in_part" = true) (k21 : PySem.W.keepIn K (.ref f21) = true)
    (a22 : PySem.W.nsIn K mainGlobals "order_number" = some (some (.ref f22)))
    (l22 : K.lookup f22 = some ⟨oc22, od22, .func (PySem.W.fnOf "order_number" "order_number" (defArgs s_order_number) (defBody s_order_number) (defScope s_order_number) .none kV22 dc22 pm22 an22 cd22 ct22), sl22⟩) (c22 : PySem.W.codeIn K cd22 "order_number" = true) (k22 : PySem.W.keepIn K (.ref f22) = true)
    (a23 : PySem.W.nsIn K mainGlobals "_law_cell_at" = some (some (.ref f23)))
    (l23 : K.lookup f23 = some ⟨oc23, od23, .func (PySem.W.fnOf "_law_cell_at" "_law_cell_at" (defArgs s_law_cell_at) (defBody s_law_cell_at) (defScope s_law_cell_at) .none kV23 dc23 pm23 an23 cd23 ct23), sl23⟩) (c23 : PySem.W.codeIn K cd23 "_law_cell_at" = true) (k23 : PySem.W.keepIn K (.ref f23) = true)
    (a24 : PySem.W.nsIn K mainGlobals "_law_whole" = some (some (.ref f24)))
    (l24 : K.lookup f24 = some ⟨oc24, od24, .func (PySem.W.fnOf "_law_whole" "_law_whole" (defArgs s_law_whole) (defBody s_law_whole) (defScope s_law_whole) .none kV24 dc24 pm24 an24 cd24 ct24), sl24⟩) (c24 : PySem.W.codeIn K cd24 "_law_whole" = true) (k24 : PySem.W.keepIn K (.ref f24) = true)
    (a25 : PySem.W.nsIn K mainGlobals "_law_draw" = some (some (.ref f25)))
    (l25 : K.lookup f25 = some ⟨oc25, od25, .func (PySem.W.fnOf "_law_draw" "_law_draw" (defArgs s_law_draw) (defBody s_law_draw) (defScope s_law_draw) .none kV25 dc25 pm25 an25 cd25 ct25), sl25⟩) (c25 : PySem.W.codeIn K cd25 "_law_draw" = true) (k25 : PySem.W.keepIn K (.ref f25) = true)
    (a26 : PySem.W.nsIn K mainGlobals "_law_row" = some (some (.ref f26)))
    (l26 : K.lookup f26 = some ⟨oc26, od26, .func (PySem.W.fnOf "_law_row" "_law_row" (defArgs s_law_row) (defBody s_law_row) (defScope s_law_row) .none kV26 dc26 pm26 an26 cd26 ct26), sl26⟩) (c26 : PySem.W.codeIn K cd26 "_law_row" = true) (k26 : PySem.W.keepIn K (.ref f26) = true)
    (a27 : PySem.W.nsIn K mainGlobals "_law_numbers" = some (some (.ref f27)))
    (l27 : K.lookup f27 = some ⟨oc27, od27, .func (PySem.W.fnOf "_law_numbers" "_law_numbers" (defArgs s_law_numbers) (defBody s_law_numbers) (defScope s_law_numbers) .none kV27 dc27 pm27 an27 cd27 ct27), sl27⟩) (c27 : PySem.W.codeIn K cd27 "_law_numbers" = true) (k27 : PySem.W.keepIn K (.ref f27) = true)
    (a28 : PySem.W.nsIn K mainGlobals "_law_tree" = some (some (.ref f28)))
    (l28 : K.lookup f28 = some ⟨oc28, od28, .func (PySem.W.fnOf "_law_tree" "_law_tree" (defArgs s_law_tree) (defBody s_law_tree) (defScope s_law_tree) .none kV28 dc28 pm28 an28 cd28 ct28), sl28⟩) (c28 : PySem.W.codeIn K cd28 "_law_tree" = true) (k28 : PySem.W.keepIn K (.ref f28) = true)
    (a29 : PySem.W.nsIn K mainGlobals "_law_orders" = some (some (.ref f29)))
    (l29 : K.lookup f29 = some ⟨oc29, od29, .func (PySem.W.fnOf "_law_orders" "_law_orders" (defArgs s_law_orders) (defBody s_law_orders) (defScope s_law_orders) .none kV29 dc29 pm29 an29 cd29 ct29), sl29⟩) (c29 : PySem.W.codeIn K cd29 "_law_orders" = true) (k29 : PySem.W.keepIn K (.ref f29) = true)
    (a30 : PySem.W.nsIn K mainGlobals "law" = some (some (.ref f30)))
    (l30 : K.lookup f30 = some ⟨oc30, od30, .func (PySem.W.fnOf "law" "law" (defArgs s_law) (defBody s_law) (defScope s_law) .none kV30 dc30 pm30 an30 cd30 ct30), sl30⟩) (c30 : PySem.W.codeIn K cd30 "law" = true) (k30 : PySem.W.keepIn K (.ref f30) = true)
    (aC : PySem.W.nsIn K mainGlobals "Row" = some (some (.ref C))) (pg : PySem.W.plainGet K C Str.empty = true) (hd : PySem.W.hasDictIn K C = true) (po : PySem.W.plainOver K C = true) (sa : PySem.W.findIn K (.ref C) "__setattr__" = some (some (.builtin "object.__setattr__"))) (mk : PySem.W.makesIn K C = true) (kc : PySem.W.keepIn K (.ref C) = true)
    (n_held : PySem.W.findIn K (.ref C) "held" = some none)
    (g_MOST_NUMBERS : PySem.W.nsIn K mainGlobals "MOST_NUMBERS" = some (some (.int 40 t_MOST_NUMBERS)))
    (z_min : PySem.W.nsIn K mainGlobals "min" = some none)
    (z_range : PySem.W.nsIn K mainGlobals "range" = some none)
    (z_enumerate : PySem.W.nsIn K mainGlobals "enumerate" = some none)
    (z_sorted : PySem.W.nsIn K mainGlobals "sorted" = some none)
    (z_len : PySem.W.nsIn K mainGlobals "len" = some none)
    (z_list : PySem.W.nsIn K mainGlobals "list" = some none)
    (z_isinstance : PySem.W.nsIn K mainGlobals "isinstance" = some none)
    (z_int : PySem.W.nsIn K mainGlobals "int" = some none)
    (z_bool : PySem.W.nsIn K mainGlobals "bool" = some none)
    (q_NoOrder : PySem.W.nsIn K mainGlobals "NoOrder" = some (some (.ref c_NoOrder))) (x_NoOrder : PySem.W.excIn K c_NoOrder bmV newV = true) (m_NoOrder : PySem.W.exmOne K (.ref c_NoOrder) (.ref c_NoOrder) = some true) :
    ∃ fd : FuncData, (∀ (s : Shared) (v : Value), BindsTo s fd ⟨[v], []⟩ [("script", v)]) ∧ ∀ base : Heap, K.In base → base.Ns mainGlobals mg → FnOk l.prog w K mg base CX0 85 fa fd ["script"] (sp_law K) := by
  have e := hfa.symm.trans (PySem.W.mg_of X G a30)
  cases e
  have T : Txt K mg C := ⟨⟨pg, hd, po, sa⟩, n_held, ⟨_, PySem.W.mg_of X G g_MOST_NUMBERS⟩, PySem.W.mg_none_of X G z_min, PySem.W.mg_none_of X G z_range, PySem.W.mg_none_of X G z_enumerate, PySem.W.mg_none_of X G z_sorted, PySem.W.mg_none_of X G z_len, PySem.W.mg_none_of X G z_list, PySem.W.mg_none_of X G z_isinstance, PySem.W.mg_none_of X G z_int, PySem.W.mg_none_of X G z_bool, excOf X G q_NoOrder x_NoOrder m_NoOrder⟩
  have F1 := fun_mk (st := s_check_size) l1 c1 k1
  have b1 := F1.binds (ps := ["size"]) fun _ _ _ _ _ _ us hl => by obtain ⟨_, rfl⟩ := len1 hl; rfl
  have F2 := fun_mk (st := s_check_stretch) l2 c2 k2
  have b2 := F2.binds (ps := ["size", "first", "behind"]) fun _ _ _ _ _ _ us hl => by obtain ⟨_, _, _, rfl⟩ := len3 hl; rfl
  have F3 := fun_mk (st := s_Row_init) l3 c3 k3
  have b3 := F3.binds (ps := ["self", "numbers"]) fun _ _ _ _ _ _ us hl => by obtain ⟨_, _, rfl⟩ := len2 hl; rfl
  have F4 := fun_mk (st := s_Row_numbers) l4 c4 k4
  have b4 := F4.binds (ps := ["self"]) fun _ _ _ _ _ _ us hl => by obtain ⟨_, rfl⟩ := len1 hl; rfl
  have F5 := fun_mk (st := s_least) l5 c5 k5
  have b5 := F5.binds (ps := ["row", "first", "behind"]) fun _ _ _ _ _ _ us hl => by obtain ⟨_, _, _, rfl⟩ := len3 hl; rfl
  have F6 := fun_mk (st := s_tree_over) l6 c6 k6
  have b6 := F6.binds (ps := ["row", "first", "behind", "over"]) fun _ _ _ _ _ _ us hl => by obtain ⟨_, _, _, _, rfl⟩ := len4 hl; rfl
  have F7 := fun_mk (st := s_tree_of) l7 c7 k7
  have b7 := F7.binds (ps := ["row"]) fun _ _ _ _ _ _ us hl => by obtain ⟨_, rfl⟩ := len1 hl; rfl
  have F8 := fun_mk (st := s_head_under) l8 c8 k8
  have b8 := F8.binds (ps := ["tree", "first", "behind", "over"]) fun _ _ _ _ _ _ us hl => by obtain ⟨_, _, _, _, rfl⟩ := len4 hl; rfl
  have F9 := fun_mk (st := s_is_part) l9 c9 k9
  have b9 := F9.binds (ps := ["some", "first", "behind", "over"]) fun _ _ _ _ _ _ us hl => by obtain ⟨_, _, _, _, rfl⟩ := len4 hl; rfl
  have F10 := fun_mk (st := s_is_tree) l10 c10 k10
  have b10 := F10.binds (ps := ["some"]) fun _ _ _ _ _ _ us hl => by obtain ⟨_, rfl⟩ := len1 hl; rfl
  have F11 := fun_mk (st := s_check_tree) l11 c11 k11
  have b11 := F11.binds (ps := ["some"]) fun _ _ _ _ _ _ us hl => by obtain ⟨_, rfl⟩ := len1 hl; rfl
  have F12 := fun_mk (st := s_check_number) l12 c12 k12
  have b12 := F12.binds (ps := ["many", "number"]) fun _ _ _ _ _ _ us hl => by obtain ⟨_, _, rfl⟩ := len2 hl; rfl
  have F13 := fun_mk (st := s_ways_to_take) l13 c13 k13
  have b13 := F13.binds (ps := ["many", "taken"]) fun _ _ _ _ _ _ us hl => by obtain ⟨_, _, rfl⟩ := len2 hl; rfl
  have F14 := fun_mk (st := s_many_in_part) l14 c14 k14
  have b14 := F14.binds (ps := ["tree", "first", "behind", "over"]) fun _ _ _ _ _ _ us hl => by obtain ⟨_, _, _, _, rfl⟩ := len4 hl; rfl
  have F15 := fun_mk (st := s_many_orders) l15 c15 k15
  have b15 := F15.binds (ps := ["tree"]) fun _ _ _ _ _ _ us hl => by obtain ⟨_, rfl⟩ := len1 hl; rfl
  have F16 := fun_mk (st := s_parting_at) l16 c16 k16
  have b16 := F16.binds (ps := ["entries", "taken", "number"]) fun _ _ _ _ _ _ us hl => by obtain ⟨_, _, _, rfl⟩ := len3 hl; rfl
  have F17 := fun_mk (st := s_parting_number) l17 c17 k17
  have b17 := F17.binds (ps := ["ahead", "rest"]) fun _ _ _ _ _ _ us hl => by obtain ⟨_, _, rfl⟩ := len2 hl; rfl
  have F18 := fun_mk (st := s_order_in_part) l18 c18 k18
  have b18 := F18.binds (ps := ["tree", "first", "over", "entries", "number"]) fun _ _ _ _ _ _ us hl => by obtain ⟨_, _, _, _, _, rfl⟩ := len5 hl; rfl
  have F19 := fun_mk (st := s_order_at) l19 c19 k19
  have b19 := F19.binds (ps := ["tree", "number"]) fun _ _ _ _ _ _ us hl => by obtain ⟨_, _, rfl⟩ := len2 hl; rfl
  have F20 := fun_mk (st := s_check_order) l20 c20 k20
  have b20 := F20.binds (ps := ["tree", "order"]) fun _ _ _ _ _ _ us hl => by obtain ⟨_, _, rfl⟩ := len2 hl; rfl
  have F21 := fun_mk (st := s_number_in_part) l21 c21 k21
  have b21 := F21.binds (ps := ["tree", "order", "first", "behind", "over"]) fun _ _ _ _ _ _ us hl => by obtain ⟨_, _, _, _, _, rfl⟩ := len5 hl; rfl
  have F22 := fun_mk (st := s_order_number) l22 c22 k22
  have b22 := F22.binds (ps := ["tree", "order"]) fun _ _ _ _ _ _ us hl => by obtain ⟨_, _, rfl⟩ := len2 hl; rfl
  have F23 := fun_mk (st := s_law_cell_at) l23 c23 k23
  have b23 := F23.binds (ps := ["script", "k"]) fun _ _ _ _ _ _ us hl => by obtain ⟨_, _, rfl⟩ := len2 hl; rfl
  have F24 := fun_mk (st := s_law_whole) l24 c24 k24
  have b24 := F24.binds (ps := ["found"]) fun _ _ _ _ _ _ us hl => by obtain ⟨_, rfl⟩ := len1 hl; rfl
  have F25 := fun_mk (st := s_law_draw) l25 c25 k25
  have b25 := F25.binds (ps := ["cell", "k", "bound"]) fun _ _ _ _ _ _ us hl => by obtain ⟨_, _, _, rfl⟩ := len3 hl; rfl
  have F26 := fun_mk (st := s_law_row) l26 c26 k26
  have b26 := F26.binds (ps := ["script", "at", "most"]) fun _ _ _ _ _ _ us hl => by obtain ⟨_, _, _, rfl⟩ := len3 hl; rfl
  have F27 := fun_mk (st := s_law_numbers) l27 c27 k27
  have b27 := F27.binds (ps := ["found", "due"]) fun _ _ _ _ _ _ us hl => by obtain ⟨_, _, rfl⟩ := len2 hl; rfl
  have F28 := fun_mk (st := s_law_tree) l28 c28 k28
  have b28 := F28.binds (ps := ["numbers"]) fun _ _ _ _ _ _ us hl => by obtain ⟨_, rfl⟩ := len1 hl; rfl
  have F29 := fun_mk (st := s_law_orders) l29 c29 k29
  have b29 := F29.binds (ps := ["size"]) fun _ _ _ _ _ _ us hl => by obtain ⟨_, rfl⟩ := len1 hl; rfl
  have F30 := fun_mk (st := s_law) l30 c30 k30
  refine ⟨PySem.W.fnOf "law" "law" (defArgs s_law) (defBody s_law) (defScope s_law) .none kV30 dc30 pm30 an30 cd30 ct30, fun s v => .of_eq rfl, fun base _ _ => ?_⟩
  have D_law_cell_at : Def l.prog w K mg base 1 "_law_cell_at" ["script", "k"] (sp_law_cell_at K C) := ⟨_, _, d_law_cell_at F23 T , PySem.W.mg_of X G a23, k23, b23⟩
  have D_law_draw : Def l.prog w K mg base 1 "_law_draw" ["cell", "k", "bound"] (sp_law_draw K C) := ⟨_, _, d_law_draw F25 T , PySem.W.mg_of X G a25, k25, b25⟩
  have D_law_row : Def l.prog w K mg base 2 "_law_row" ["script", "at", "most"] (sp_law_row K C) := ⟨_, _, d_law_row F26 T D_law_cell_at D_law_draw, PySem.W.mg_of X G a26, k26, b26⟩
  have D_law_tree : Def l.prog w K mg base 1 "_law_tree" ["numbers"] (sp_law_tree K C) := ⟨_, _, d_law_tree F28 T , PySem.W.mg_of X G a28, k28, b28⟩
  have D_law_orders : Def l.prog w K mg base 1 "_law_orders" ["size"] (sp_law_orders K C) := ⟨_, _, d_law_orders F29 T , PySem.W.mg_of X G a29, k29, b29⟩
  have D_head_under : Def l.prog w K mg base 1 "head_under" ["tree", "first", "behind", "over"] (sp_head_under K C) := ⟨_, _, d_head_under F8 T , PySem.W.mg_of X G a8, k8, b8⟩
  have D_is_part : Def l.prog w K mg base 42 "is_part" ["some", "first", "behind", "over"] (sp_is_part K C) := ⟨_, _, d_is_part F9 T (PySem.W.mg_of X G a9) k9 b9 D_head_under, PySem.W.mg_of X G a9, k9, b9⟩
  have D_is_tree : Def l.prog w K mg base 43 "is_tree" ["some"] (sp_is_tree K C) := ⟨_, _, d_is_tree F10 T D_is_part, PySem.W.mg_of X G a10, k10, b10⟩
  have D_check_tree : Def l.prog w K mg base 44 "check_tree" ["some"] (sp_check_tree K C) := ⟨_, _, d_check_tree F11 T D_is_tree, PySem.W.mg_of X G a11, k11, b11⟩
  have D_ways_to_take : Def l.prog w K mg base 1 "ways_to_take" ["many", "taken"] (sp_ways_to_take K C) := ⟨_, _, d_ways_to_take F13 T , PySem.W.mg_of X G a13, k13, b13⟩
  have D_many_in_part : Def l.prog w K mg base 42 "many_in_part" ["tree", "first", "behind", "over"] (sp_many_in_part K C) := ⟨_, _, d_many_in_part F14 T (PySem.W.mg_of X G a14) k14 b14 D_head_under D_ways_to_take, PySem.W.mg_of X G a14, k14, b14⟩
  have D_many_orders : Def l.prog w K mg base 45 "many_orders" ["tree"] (sp_many_orders K C) := ⟨_, _, d_many_orders F15 T D_check_tree D_many_in_part, PySem.W.mg_of X G a15, k15, b15⟩
  have D_law_whole : Def l.prog w K mg base 1 "_law_whole" ["found"] (sp_law_whole K C) := ⟨_, _, d_law_whole F24 T , PySem.W.mg_of X G a24, k24, b24⟩
  have D_check_number : Def l.prog w K mg base 1 "check_number" ["many", "number"] (sp_check_number K C) := ⟨_, _, d_check_number F12 T , PySem.W.mg_of X G a12, k12, b12⟩
  have D_parting_at : Def l.prog w K mg base 2 "parting_at" ["entries", "taken", "number"] (sp_parting_at K C) := ⟨_, _, d_parting_at F16 T D_ways_to_take, PySem.W.mg_of X G a16, k16, b16⟩
  have D_order_in_part : Def l.prog w K mg base 83 "order_in_part" ["tree", "first", "over", "entries", "number"] (sp_order_in_part K C) := ⟨_, _, d_order_in_part F18 T (PySem.W.mg_of X G a18) k18 b18 D_head_under D_many_in_part D_parting_at, PySem.W.mg_of X G a18, k18, b18⟩
  have D_order_at : Def l.prog w K mg base 84 "order_at" ["tree", "number"] (sp_order_at K C) := ⟨_, _, d_order_at F19 T D_check_number D_many_orders D_order_in_part, PySem.W.mg_of X G a19, k19, b19⟩
  have D_law_numbers : Def l.prog w K mg base 2 "_law_numbers" ["found", "due"] (sp_law_numbers K C) := ⟨_, _, d_law_numbers F27 T D_law_whole, PySem.W.mg_of X G a27, k27, b27⟩
  have D_Row_numbers : DefM l.prog w K mg base 1 C "numbers" ["self"] (sp_Row_numbers K C) := ⟨_, _, d_Row_numbers F4 T , ⟨a4, i4, k4⟩, b4⟩
  have D_check_stretch : Def l.prog w K mg base 1 "check_stretch" ["size", "first", "behind"] (sp_check_stretch K C) := ⟨_, _, d_check_stretch F2 T , PySem.W.mg_of X G a2, k2, b2⟩
  have D_least : Def l.prog w K mg base 2 "least" ["row", "first", "behind"] (sp_least K C) := ⟨_, _, d_least F5 T D_Row_numbers D_check_stretch, PySem.W.mg_of X G a5, k5, b5⟩
  have D_tree_over : Def l.prog w K mg base 43 "tree_over" ["row", "first", "behind", "over"] (sp_tree_over K C) := ⟨_, _, d_tree_over F6 T (PySem.W.mg_of X G a6) k6 b6 D_least, PySem.W.mg_of X G a6, k6, b6⟩
  have D_tree_of : Def l.prog w K mg base 44 "tree_of" ["row"] (sp_tree_of K C) := ⟨_, _, d_tree_of F7 T D_tree_over D_Row_numbers, PySem.W.mg_of X G a7, k7, b7⟩
  have D_check_size : Def l.prog w K mg base 1 "check_size" ["size"] (sp_check_size K C) := ⟨_, _, d_check_size F1 T , PySem.W.mg_of X G a1, k1, b1⟩
  have D_Row : DefC l.prog w K mg base 2 C "Row" ["self", "numbers"] (sp_Row_init K C) := ⟨_, _, d_Row_init F3 T D_check_size, ⟨mk, a3, i3, kc⟩, b3, PySem.W.mg_of X G aC⟩
  have DX_check_order : DefX l.prog w K mg base 45 "check_order" ["tree", "order"] (spX_check_order K C) := ⟨_, _, d_check_order F20 T D_tree_of D_Row, PySem.W.mg_of X G a20, k20, b20⟩
  have D_check_order : Def l.prog w K mg base 45 "check_order" ["tree", "order"] (sp_check_order K C) := DX_check_order.toDef
  have D_parting_number : Def l.prog w K mg base 2 "parting_number" ["ahead", "rest"] (sp_parting_number K C) := ⟨_, _, d_parting_number F17 T D_ways_to_take, PySem.W.mg_of X G a17, k17, b17⟩
  have D_number_in_part : Def l.prog w K mg base 83 "number_in_part" ["tree", "order", "first", "behind", "over"] (sp_number_in_part K C) := ⟨_, _, d_number_in_part F21 T (PySem.W.mg_of X G a21) k21 b21 D_head_under D_many_in_part D_parting_number, PySem.W.mg_of X G a21, k21, b21⟩
  have DX_order_number : DefX l.prog w K mg base 84 "order_number" ["tree", "order"] (spX_order_number K C) := ⟨_, _, d_order_number F22 T D_check_tree DX_check_order D_number_in_part, PySem.W.mg_of X G a22, k22, b22⟩
  have D_order_number : Def l.prog w K mg base 84 "order_number" ["tree", "order"] (sp_order_number K C) := DX_order_number.toDef
  exact d_law F30 T D_law_row D_law_tree D_law_orders D_many_orders D_law_whole D_order_at D_law_numbers D_order_number
theorem walk {l : PySem.W.OpenLaw} {q : Program} {loose : List Str} {XP : (Str → Option Value) → Heap → Prop} {YP : World → Heap → Prop} {d : DefRec} {K : Params → PySem.W.Frag} (hn : l.most = some 63) (hdf : d.params.defaults = [])
    (hY : ∀ (w : World) (h : Heap), YP w h → (K w.params).In h)
    (F : ∀ (w : World) (mg : Str → Option Value) (fa : Addr) (h : Heap), (K w.params).In h → h.Ns mainGlobals mg → mg d.name = some (.ref fa) →
      ∃ fd : FuncData, (∀ (s : Shared) (u : Value), BindsTo s fd ⟨[u], []⟩ [("script", u)]) ∧ ∀ base : Heap, (K w.params).In base → base.Ns mainGlobals mg → FnOk l.prog w (K w.params) mg base CX0 85 fa fd ["script"] (sp_law (K w.params))) :
    PySem.W.WalkO q loose XP YP l.row.toRowW d [] (fun f vs => PySem.call f vs) :=
  L2.walk_of (n := 63) (k := 85) (x := "script") (CX := fun _ => CX0) (sp := fun w => sp_law (K w.params)) hn (by decide) hdf ⟨rfl, by decide, by decide⟩ hY F (fun _ _ a ns hl ho hS => law_start hl ho hS) fun _ _ _ _ _ z => z
end Vt
open PySem PySem.W PyProof.Rows
set_option maxRecDepth 100000 in
set_option maxHeartbeats 0 in
theorem PySem.Challenge.cw_valleytree_k10_all_orders_of_small_trees_holds : PySem.Challenge.rw_valleytree_k10_all_orders_of_small_trees.Holds := by
  w_on; o_law; k_head; (case hw => w_witness2)
  k_fill
  refine Vt.walk (l := PySem.Challenge.rw_valleytree_k10_all_orders_of_small_trees) rfl rfl (fun w h Y => PySem.W.kIn_of Y) ?F
  case F =>
    intro w mg fa h KX G hmg
    refine' Vt.all_mk KX G hmg ?a1 ?l1 ?c1 ?k1 ?a2 ?l2 ?c2 ?k2 ?a3 ?i3 ?l3 ?c3 ?k3 ?a4 ?i4 ?l4 ?c4 ?k4 ?a5 ?l5 ?c5 ?k5 ?a6 ?l6 ?c6 ?k6 ?a7 ?l7 ?c7 ?k7 ?a8 ?l8 ?c8 ?k8 ?a9 ?l9 ?c9 ?k9 ?a10 ?l10 ?c10 ?k10 ?a11 ?l11 ?c11 ?k11 ?a12 ?l12 ?c12 ?k12 ?a13 ?l13 ?c13 ?k13 ?a14 ?l14 ?c14 ?k14 ?a15 ?l15 ?c15 ?k15 ?a16 ?l16 ?c16 ?k16 ?a17 ?l17 ?c17 ?k17 ?a18 ?l18 ?c18 ?k18 ?a19 ?l19 ?c19 ?k19 ?a20 ?l20 ?c20 ?k20 ?a21 ?l21 ?c21 ?k21 ?a22 ?l22 ?c22 ?k22 ?a23 ?l23 ?c23 ?k23 ?a24 ?l24 ?c24 ?k24 ?a25 ?l25 ?c25 ?k25 ?a26 ?l26 ?c26 ?k26 ?a27 ?l27 ?c27 ?k27 ?a28 ?l28 ?c28 ?k28 ?a29 ?l29 ?c29 ?k29 ?a30 ?l30 ?c30 ?k30 ?aC ?pg ?hd ?po ?sa ?mk ?kc ?n_held ?g_MOST_NUMBERS ?z_min ?z_range ?z_enumerate ?z_sorted ?z_len ?z_list ?z_isinstance ?z_int ?z_bool ?q_NoOrder ?x_NoOrder ?m_NoOrder
    (case aC => k_is)
    (case q_NoOrder => k_is)
    (case a1 => k_is)
    (case l1 => k_is)
    (case c1 => k_is)
    (case k1 => k_is)
    (case a2 => k_is)
    (case l2 => k_is)
    (case c2 => k_is)
    (case k2 => k_is)
    (case a3 => k_is)
    (case i3 => k_is)
    (case l3 => k_is)
    (case c3 => k_is)
    (case k3 => k_is)
    (case a4 => k_is)
    (case i4 => k_is)
    (case l4 => k_is)
    (case c4 => k_is)
    (case k4 => k_is)
    (case a5 => k_is)
    (case l5 => k_is)
    (case c5 => k_is)
    (case k5 => k_is)
    (case a6 => k_is)
    (case l6 => k_is)
    (case c6 => k_is)
    (case k6 => k_is)
    (case a7 => k_is)
    (case l7 => k_is)
    (case c7 => k_is)
    (case k7 => k_is)
    (case a8 => k_is)
    (case l8 => k_is)
    (case c8 => k_is)
    (case k8 => k_is)
    (case a9 => k_is)
    (case l9 => k_is)
    (case c9 => k_is)
    (case k9 => k_is)
    (case a10 => k_is)
    (case l10 => k_is)
    (case c10 => k_is)
    (case k10 => k_is)
    (case a11 => k_is)
    (case l11 => k_is)
    (case c11 => k_is)
    (case k11 => k_is)
    (case a12 => k_is)
    (case l12 => k_is)
    (case c12 => k_is)
    (case k12 => k_is)
    (case a13 => k_is)
    (case l13 => k_is)
    (case c13 => k_is)
    (case k13 => k_is)
    (case a14 => k_is)
    (case l14 => k_is)
    (case c14 => k_is)
    (case k14 => k_is)
    (case a15 => k_is)
    (case l15 => k_is)
    (case c15 => k_is)
    (case k15 => k_is)
    (case a16 => k_is)
    (case l16 => k_is)
    (case c16 => k_is)
    (case k16 => k_is)
    (case a17 => k_is)
    (case l17 => k_is)
    (case c17 => k_is)
    (case k17 => k_is)
    (case a18 => k_is)
    (case l18 => k_is)
    (case c18 => k_is)
    (case k18 => k_is)
    (case a19 => k_is)
    (case l19 => k_is)
    (case c19 => k_is)
    (case k19 => k_is)
    (case a20 => k_is)
    (case l20 => k_is)
    (case c20 => k_is)
    (case k20 => k_is)
    (case a21 => k_is)
    (case l21 => k_is)
    (case c21 => k_is)
    (case k21 => k_is)
    (case a22 => k_is)
    (case l22 => k_is)
    (case c22 => k_is)
    (case k22 => k_is)
    (case a23 => k_is)
    (case l23 => k_is)
    (case c23 => k_is)
    (case k23 => k_is)
    (case a24 => k_is)
    (case l24 => k_is)
    (case c24 => k_is)
    (case k24 => k_is)
    (case a25 => k_is)
    (case l25 => k_is)
    (case c25 => k_is)
    (case k25 => k_is)
    (case a26 => k_is)
    (case l26 => k_is)
    (case c26 => k_is)
    (case k26 => k_is)
    (case a27 => k_is)
    (case l27 => k_is)
    (case c27 => k_is)
    (case k27 => k_is)
    (case a28 => k_is)
    (case l28 => k_is)
    (case c28 => k_is)
    (case k28 => k_is)
    (case a29 => k_is)
    (case l29 => k_is)
    (case c29 => k_is)
    (case k29 => k_is)
    (case a30 => k_is)
    (case l30 => k_is)
    (case c30 => k_is)
    (case k30 => k_is)
    (case pg => k_is)
    (case hd => k_is)
    (case po => k_is)
    (case sa => k_is)
    (case mk => k_is)
    (case kc => k_is)
    (case n_held => k_is)
    (case g_MOST_NUMBERS => k_is)
    (case z_min => k_is)
    (case z_range => k_is)
    (case z_enumerate => k_is)
    (case z_sorted => k_is)
    (case z_len => k_is)
    (case z_list => k_is)
    (case z_isinstance => k_is)
    (case z_int => k_is)
    (case z_bool => k_is)
    (case x_NoOrder => k_exc)
    (case m_NoOrder => kts_exm)

