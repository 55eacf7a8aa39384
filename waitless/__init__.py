"""Waitless: what hands can work out of which any may stop at any step."""
