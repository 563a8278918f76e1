"""Greatest sums of the points of a box, and bounds for them."""
