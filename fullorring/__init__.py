"""Fullorring: which tables deal evenly, whoever draws first."""
