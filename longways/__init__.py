"""Longways: sets of couples that dance, and where everybody then stands."""
