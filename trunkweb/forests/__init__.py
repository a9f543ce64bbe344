"""Steiner forests, moats, and choices with prizes."""
