"""Headroad: beginnings of addresses that tell ways, the longest one first."""
