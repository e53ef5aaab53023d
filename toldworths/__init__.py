"""The opening: private firms for told worths."""
