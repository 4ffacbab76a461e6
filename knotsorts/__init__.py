"""Knotsorts: sorting by rules that are no orders."""
