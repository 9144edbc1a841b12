"""Branchdues: who gets what down a tree of groups."""
