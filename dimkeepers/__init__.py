"""Dimkeepers: keepers who remember few, and what they know together."""
