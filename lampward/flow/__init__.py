"""Systems of equations, heights and flows."""
