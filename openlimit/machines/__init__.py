"""Machines that count, their runs and their needs."""
