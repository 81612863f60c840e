"""Texts of machines, recipes and edits, and a shell."""
