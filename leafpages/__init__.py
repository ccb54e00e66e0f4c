"""Leafpages: search trees laid out in pages."""
