"""Books of rules about concepts and roles, decided for all worlds of any size."""
