"""Openlimit: limits that are left open."""
