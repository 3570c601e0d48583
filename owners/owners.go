// Package owners: how many spaces have each page of a pager.
//
// Spaces that were made apart may have the same page, and must know it. So the book of who has which lies with the pager,
// though no part of its face: a pager embeds Kept, and package space asks for the book here.
package owners

// Kept is what a pager embeds.
type Kept struct {
	book Book
}

func (k *Kept) kept() *Book { return &k.book }

// keeper is what embeds Kept.
type keeper interface {
	kept() *Book
}

// Of tells the book of a pager.
func Of(k keeper) *Book { return k.kept() }

// Book says how many have each page.
type Book struct {
	have map[int]int
}

// Own counts one more that has a page; Disown one less, and tells whether none is left.
func (b *Book) Own(id int) {
	if b.have == nil {
		b.have = map[int]int{}
	}
	b.have[id]++
}

func (b *Book) Disown(id int) bool {
	if b.have[id] > 1 {
		b.have[id]--
		return false
	}
	delete(b.have, id)
	return true
}

// Shared tells whether more than one has a page.
func (b *Book) Shared(id int) bool { return b.have[id] > 1 }
