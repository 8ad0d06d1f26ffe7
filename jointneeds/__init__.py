"""Monomial ideals and the needs that their generators have in common."""
