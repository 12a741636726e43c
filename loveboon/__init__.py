"""Loveboon: work that is pledged on what others give."""
