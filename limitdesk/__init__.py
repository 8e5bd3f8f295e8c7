"""Limitdesk: amounts under limits."""
