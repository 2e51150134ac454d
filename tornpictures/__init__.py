"""Pictures as rows of bytes, packed, and read in pieces."""
