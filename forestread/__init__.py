"""Forestread: all trees of a text in one wood."""
