"""Surehouse: a shop that promises exactly what it can send, each coin and thing once."""
