"""Valleytree: the least of any stretch, the tree of lesser numbers, and skylines."""
