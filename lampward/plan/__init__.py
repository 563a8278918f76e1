"""Plans: safe outputs of the least cost, and proofs that there is nothing better."""
