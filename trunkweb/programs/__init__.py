"""Fractions, linear programs, and how they are solved."""
