"""What stands above what, in bands."""
