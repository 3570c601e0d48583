package owners

import "testing"

// thing is what embeds Kept.
type thing struct {
	Kept
}

func TestBook(t *testing.T) {
	a, b := &thing{}, &thing{}
	Of(a).Own(7)
	if Of(a).Shared(7) || Of(b).Shared(7) {
		t.Error("one has it")
	}
	Of(a).Own(7)
	if !Of(a).Shared(7) || Of(b).Shared(7) {
		t.Error("two have it")
	}
	if Of(a).Disown(7) || Of(a).Shared(7) || !Of(a).Disown(7) || !Of(b).Disown(7) {
		t.Error("Disown")
	}
}
