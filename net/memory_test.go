package net_test

import (
	"bytes"
	"testing"

	"headrace/api"
	"headrace/net"
)

// P13.3

// overwrite writes into a list, and behind its end as far as it has room.
func overwrite(b []byte) {
	b = b[:cap(b)]
	for i := range b {
		b[i] = '~'
	}
}

func TestDataIsNeitherChangedNorKept(t *testing.T) {
	for size := range 40 {
		held := []byte("0123456789abcdefghijklmnopqrstuvwxyz0123456789")
		before := bytes.Clone(held)
		want := mail(1, 2, string(held[:size]))
		n := laid(t, 4)
		expect(t, "P13.1", api.OK, n.Send(1, 2, held[:size]))
		n.Twice(0)
		n.Move(0, 1)
		m, _ := n.Take(0)
		overwrite(m.Data)
		m, _ = n.At(0)
		overwrite(m.Data)
		if !bytes.Equal(held, before) {
			t.Fatalf("P13.3: %s becomes %s", before, held)
		}
		overwrite(held)
		holds(t, "P13.3", n, want)
	}
}

func TestDataOfARefusedMail(t *testing.T) {
	l := row("a")
	n := laid(t, 1, l...)
	b := []byte("bytes")
	expect(t, "P13.1", api.ErrFull, n.Send(1, 2, b[:2]))
	if string(b) != "bytes" {
		t.Errorf("P13.3: bytes become %s", b)
	}
	holds(t, "P13.1", n, l...)
}

func TestResultsAreNewMemory(t *testing.T) {
	for size := range 40 {
		want := net.Mail{From: 1, To: 2, Data: bytes.Repeat([]byte("x"), size)}
		n := laid(t, 8, want, want)
		expect(t, "P13.2", api.OK, n.Twice(0))
		expect(t, "P13.2", api.OK, n.Twice(2))
		a, _ := n.At(0)
		b, _ := n.At(0)
		overwrite(a.Data)
		is(t, "P13.3: the other result", want, b, true)
		overwrite(append(b.Data, "more"...))
		holds(t, "P13.3: the mails", n, want, want, want, want)
		for _, i := range []int{2, 0, 1} {
			m, ok := n.Take(i)
			is(t, "P13.3: a mail that is taken", want, m, ok)
			overwrite(append(m.Data, "more"...))
			overwrite(m.Data)
		}
		holds(t, "P13.3: the last mail", n, want)
		m, _ := n.Take(0)
		expect(t, "P13.1", api.OK, n.Send(5, 6, []byte("another mail than the one that was taken")))
		is(t, "P13.3: what was taken, after a Send", want, m, true)
		overwrite(m.Data)
		holds(t, "P13.3: after a Take", n, mail(5, 6, "another mail than the one that was taken"))
	}
}
