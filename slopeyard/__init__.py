"""Slopeyard: machines whose levels run along straight slopes, and what they can come to."""
