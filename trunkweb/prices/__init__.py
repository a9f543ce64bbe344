"""Tasks in networks whose prices change."""
