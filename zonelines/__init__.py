"""Three zones, their orders, and what lines really carry."""
