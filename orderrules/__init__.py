"""Orderrules: rules of order for texts."""
