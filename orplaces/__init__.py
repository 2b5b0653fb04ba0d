"""Programs in a control store whose next address is a base ORed with conditions."""
