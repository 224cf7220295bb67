"""What is overlooked by deeds that are done after an elder look, and what must be compared so that nothing is."""
