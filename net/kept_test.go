package net

import "testing"

// A net keeps nothing of a mail that has left it; only from within can that be seen.
func TestNothingIsKeptOfMailsThatLeft(t *testing.T) {
	n, _ := New(8)
	for i := range 8 {
		n.Send(i, i, []byte("bytes"))
	}
	n.Take(7)
	n.Take(0)
	n.Move(0, 5)
	n.Drop(2)
	n.Twice(0)
	n.Drop(5)
	for i, m := range n.mails[:cap(n.mails)] {
		if (m.Data != nil) != (i < n.Len()) {
			t.Errorf("of %d mails, number %d has the bytes %q", n.Len(), i, m.Data)
		}
	}
}
