"""Fences with corners at fractions, and the stakes in them at every size."""
