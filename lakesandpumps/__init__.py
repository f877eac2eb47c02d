"""Water and batteries: which sendings between stores earn most."""
