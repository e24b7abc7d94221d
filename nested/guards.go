package nested

// Guard marks a mapped page as guarded; false if the page is not mapped.
func (t *Table) Guard(page int) bool {
	return t.mark(page, true)
}

// Unguard takes the mark away; false if the page is not mapped.
func (t *Table) Unguard(page int) bool {
	return t.mark(page, false)
}

// Guarded is whether the page is mapped and guarded.
func (t *Table) Guarded(page int) bool {
	return t.isMapped(page) && t.pages[page].guarded
}

// Mapped is the numbers of the mapped pages, the lowest first.
func (t *Table) Mapped() []int {
	var list []int
	for number, p := range t.pages {
		if p.mapped {
			list = append(list, number)
		}
	}
	return list
}

func (t *Table) mark(page int, guarded bool) bool {
	if !t.isMapped(page) {
		return false
	}
	t.pages[page].guarded = guarded
	return true
}
