"""Networks, their texts, and paths in them."""
