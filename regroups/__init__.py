"""Regroups: products bracketed anew by one rule, for all ways at once."""
