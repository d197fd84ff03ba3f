"""Tieseek: a web of things and ties, asked by patterns of ways."""
