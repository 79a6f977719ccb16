"""Everguard: machines, and things that must never be."""
