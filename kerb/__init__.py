"""Kerb: rounds through all sides of all streets."""
