"""How far a granted box can widen, and how much of a box can be kept."""
