"""Pickalike: two small worlds, told alike or parted by a saying."""
