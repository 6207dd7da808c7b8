"""Orders that show none of told little patterns, and all that is true of them."""
