"""Longsheet: spreadsheets of any length, told for all lengths at once."""
