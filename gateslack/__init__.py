"""Gateslack: how late and how early signals come."""
