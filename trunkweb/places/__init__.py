"""Places for facilities."""
