"""Rows of writes whose power can be lost at any write."""
