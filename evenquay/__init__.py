"""Evenquay: cranes shared out so evenly that no number is passed more than it must."""
