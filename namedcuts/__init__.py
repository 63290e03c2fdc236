"""Namedcuts: tables in parts whose bounds are only named."""
