"""The tests of kerb."""
