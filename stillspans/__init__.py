"""Stillspans: tables that lead rows, and the spans that they leave still."""
