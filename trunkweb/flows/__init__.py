"""Flows and cuts."""
