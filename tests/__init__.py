"""Tests of the package oddrounds."""
