"""Hardwraps: lines that are wrapped again and again."""
