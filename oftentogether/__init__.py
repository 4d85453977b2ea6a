"""Oftentogether: what is often taken together."""
