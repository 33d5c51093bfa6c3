"""Loadanywhere: programs whose words are sums of places that nobody knows yet."""
