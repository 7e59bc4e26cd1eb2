"""Oddrounds: sorting a row by parallel exchanges of neighbours."""
