"""Termsonwires: formats as terms, read bit by bit."""
