"""Ways taken: the first way that fits, and nobody goes back."""
