"""A field at rest: two sides, their things, and the calls that change them."""
