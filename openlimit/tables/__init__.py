"""Grades, tables, recipes and written words."""
