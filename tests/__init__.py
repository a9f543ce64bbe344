"""The tests of trunkweb."""
