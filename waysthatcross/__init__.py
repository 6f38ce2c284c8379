"""Ways over gates, each in an order of its own."""
