package ram

import (
	"innkeeper/api"
)

// Page is the bytes of page n; false if there is no such page.
func (m *Memory) Page(n int) ([]byte, bool) {
	if !m.isPage(n) {
		return nil, false
	}
	return m.read(uint32(n)*api.PageSize, api.PageSize), true
}

// PutPage sets the bytes of page n; false if there is no such page, or if b is not as long as one.
func (m *Memory) PutPage(n int, b []byte) bool {
	return m.isPage(n) && len(b) == api.PageSize && m.write(uint32(n)*api.PageSize, b) == api.OK
}

// Load sets the bytes from address 0 on, or none and ErrLong if they are more than there are addresses.
func (m *Memory) Load(b []byte) api.Errno {
	if len(b) > int(m.Size()) {
		return api.ErrLong
	}
	return m.write(0, b)
}

// All is the bytes of all addresses.
func (m *Memory) All() []byte {
	return m.read(0, m.Size())
}

func (m *Memory) isPage(n int) bool {
	return 0 <= n && n < m.table.Pages()
}

// read is the n bytes from an address on, all of which there are.
func (m *Memory) read(from, n uint32) []byte {
	list := make([]byte, n)
	for i := range list {
		list[i] = m.get(from + uint32(i))
	}
	return list
}
