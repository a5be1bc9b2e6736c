"""Toldpieces: a thing laid over houses, and told again by single numbers."""
