"""Tests of maybetables, beside the package."""
