"""Spanways: stretches of time and what may lie between two of them."""
