"""Leafjudge: trees of questions grown from cases."""
