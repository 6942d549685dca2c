"""Chainhouse: one row of deeds, kept by several houses."""
