"""Patterns, their machines, and rules that rewrite them."""
