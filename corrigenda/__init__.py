"""Corrigenda: differences and patches for any kind of data."""
