"""Programs whose variables are 0 or 1, by cases."""
