"""Maskwright: chips' drawings made, looked through, and what they do."""
