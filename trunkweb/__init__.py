"""Trunkweb: network design."""
