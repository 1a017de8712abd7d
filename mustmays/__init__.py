"""Mustmays: what must and may be, by hands with rules."""
