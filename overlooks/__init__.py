"""Overlooks: people in a row who change places over the heads of shorter people."""
