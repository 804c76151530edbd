"""Steadypages: page tokens, their debts, and repair by counts."""
