package commands

// readCommand answers the command that a line is, and whether it is one.
func readCommand(line string) (Command, bool) {
	a, next := readAddresses(line)
	if next < 0 || next >= len(line) {
		return Command{}, false
	}
	c := Command{Addresses: a, Name: line[next]}
	ok := c.readRest(line[next+1:])
	if !ok {
		return Command{}, false
	}
	return c, true
}

// readRest reads what stands behind the name, and tells whether that is what the name asks for.
func (c *Command) readRest(rest string) bool {
	switch c.Name {
	case 'p', 'd', 'D', 'P', 'n', 'N', 'h', 'H', 'g', 'G', 'x', 'q', '=', '{':
		return rest == ""
	case '}':
		return rest == "" && c.Addresses.Count == 0
	case ':':
		c.Label = labelOf(rest)
		return c.Label != 0 && c.Addresses.Count == 0
	case 'b', 't':
		c.Label = labelOf(rest)
		return c.Label != 0 || rest == ""
	case 'a', 'i', 'c':
		c.Text = rest
		return true
	case 's':
		return c.readSubstitution(rest)
	case 'y':
		return c.readExchange(rest)
	}
	return false
}

// labelOf answers the label that a text is; 0, if it is none.
func labelOf(s string) byte {
	if len(s) != 1 || s[0] < 'a' || s[0] > 'z' {
		return 0
	}
	return s[0]
}
