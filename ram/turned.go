package ram

// Turned is the numbers of the pages that were written into since the last Calm, the lowest first.
func (m *Memory) Turned() []int {
	var list []int
	for page, turned := range m.turned {
		if turned {
			list = append(list, page)
		}
	}
	return list
}

// Calm forgets which pages were written into.
func (m *Memory) Calm() {
	clear(m.turned)
}
