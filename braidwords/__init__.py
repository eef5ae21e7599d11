"""Braidwords: what one sees in mirrors, one behind the other."""
