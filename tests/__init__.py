"""Tests of longways; see README.md for how to run them."""
