package block

import "cairn/disk"

// The front of a page: a byte for its kind, one for the count of its items, and the link.
const (
	kindAt     = 0
	countAt    = 1
	linkAt     = 2
	frontBytes = linkAt + AddressBytes
)

// Page is a block as a store writes it: a front, and items of one width behind it.
type Page disk.Block

// New gives a page without items.
func New(k Kind) Page {
	return Page{kindAt: byte(k)}
}

// Kind tells of which kind a page is.
func (p *Page) Kind() Kind { return Kind(p[kindAt]) }

// Count tells how many items a page has.
func (p *Page) Count() int { return int(p[countAt]) }

// Link tells which block a page links to; 0: none, for block 0 is the log's head, to which nothing links.
func (p *Page) Link() int { return Number(p[linkAt:frontBytes]) }

// SetLink makes a page link to a block.
func (p *Page) SetLink(at int) { SetNumber(p[linkAt:frontBytes], at) }

// Item gives the bytes of an item, in the page itself.
func (p *Page) Item(i int) []byte {
	width := p.Kind().Width()
	from := frontBytes + i*width
	return p[from : from+width]
}

// Items gives the bytes of all items, in the page itself.
func (p *Page) Items() []byte {
	return p[frontBytes : frontBytes+p.Count()*p.Kind().Width()]
}

// Grow gives a page so many items more, and their bytes, in the page itself, to be filled.
func (p *Page) Grow(items int) []byte {
	from := len(p.Items())
	p[countAt] += byte(items)
	return p.Items()[from:]
}
