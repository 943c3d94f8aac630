"""Questions led to flat ones, and their answers stitched together."""
