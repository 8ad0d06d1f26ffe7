"""Tests of jointneeds."""
