"""Tests of Landweave: python3 -m unittest discover -s tests -t ."""
