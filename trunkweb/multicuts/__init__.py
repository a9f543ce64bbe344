"""Multiway cuts, cuts into parts, and vertex cuts."""
