"""Panplan: which things are heavier or lighter, told by as few weighings as can be."""
