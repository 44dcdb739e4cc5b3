"""Everymending: what is sure in a database whose keys are broken."""
