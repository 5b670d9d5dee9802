"""Landweave: an endless land by rules, seed and edits, asked at any level."""
