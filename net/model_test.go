package net_test

import (
	"math/rand"
	"slices"
	"testing"

	"headrace/api"
	"headrace/net"
)

// pile is a net by its words: a list of mails of which every call makes a new one.
type pile struct {
	room  int
	mails []net.Mail
}

// sent returns the pile after a Send.
func (p pile) sent(m net.Mail) (pile, api.Errno) {
	if len(p.mails) == p.room {
		return p, api.ErrFull
	}
	p.mails = slices.Concat(p.mails, []net.Mail{m})
	return p, api.OK
}

// without returns the pile without a mail, and this mail.
func (p pile) without(i int) (pile, net.Mail, bool) {
	if i < 0 || i >= len(p.mails) {
		return p, net.Mail{}, false
	}
	m := p.mails[i]
	p.mails = slices.Delete(slices.Clone(p.mails), i, i+1)
	return p, m, true
}

// doubled returns the pile after a Twice.
func (p pile) doubled(i int) (pile, api.Errno) {
	_, m, ok := p.without(i)
	if !ok {
		return p, api.ErrNone
	}
	return p.sent(m)
}

// moved returns the pile after a Move.
func (p pile) moved(i, to int) (pile, bool) {
	p, m, ok := p.without(i)
	if ok {
		p.mails = slices.Insert(p.mails, min(max(to, 0), len(p.mails)), m)
	}
	return p, ok
}

// somewhere returns an index that a list of so many may have, or that is a little beyond it.
func somewhere(r *rand.Rand, size int) int {
	return r.Intn(size+5) - 2
}

// someMail returns a mail.
func someMail(r *rand.Rand) net.Mail {
	m := net.Mail{From: r.Intn(4), To: r.Intn(4), Data: make([]byte, r.Intn(20))}
	r.Read(m.Data)
	return m
}

// step makes a call of the net and of the pile, holds them to each other, and returns the pile.
func step(t *testing.T, r *rand.Rand, n *net.Net, p pile) pile {
	t.Helper()
	i, to := somewhere(r, len(p.mails)), somewhere(r, len(p.mails))
	switch r.Intn(7) {
	case 0, 1:
		m := someMail(r)
		q, e := p.sent(m)
		expect(t, "P13.1: Send", e, n.Send(m.From, m.To, m.Data))
		return q
	case 2:
		q, want, there := p.without(i)
		m, ok := n.Take(i)
		if there {
			is(t, "P13.2: Take", want, m, ok)
		} else {
			none(t, "P13.2: Take", m, ok)
		}
		return q
	case 3:
		q, _, there := p.without(i)
		if ok := n.Drop(i); ok != there {
			t.Fatalf("P13.2: Drop(%d) is %t", i, ok)
		}
		return q
	case 4:
		q, e := p.doubled(i)
		expect(t, "P13.2: Twice", e, n.Twice(i))
		return q
	default:
		q, there := p.moved(i, to)
		if ok := n.Move(i, to); ok != there {
			t.Fatalf("P13.2: Move(%d, %d) is %t", i, to, ok)
		}
		return q
	}
}

// P13.1, P13.2: whatever is called, in whatever order.
func TestRowsOfCalls(t *testing.T) {
	for seed := range int64(300) {
		r := rand.New(rand.NewSource(seed))
		p := pile{room: 1 + r.Intn(12)}
		n := laid(t, p.room)
		for range 200 {
			p = step(t, r, n, p)
			holds(t, "P13.2", n, p.mails...)
		}
	}
}

// P13.4

// key is a mail that can be a key of a map.
type key struct {
	from, to int
	data     string
}

func keyOf(m net.Mail) key {
	return key{m.From, m.To, string(m.Data)}
}

func TestMailsAreNotMade(t *testing.T) {
	for seed := range int64(200) {
		r := rand.New(rand.NewSource(seed))
		n := laid(t, 20)
		in, out := make(map[key]int), make(map[key]int)
		for range 300 {
			i := somewhere(r, n.Len())
			was, _ := n.At(i)
			switch m := someMail(r); r.Intn(6) {
			case 0, 1:
				if n.Send(m.From, m.To, m.Data) == api.OK {
					in[keyOf(m)]++
				}
			case 2:
				if n.Twice(i) == api.OK {
					in[keyOf(was)]++
				}
			case 3:
				n.Move(i, somewhere(r, n.Len()))
			case 4:
				if m, ok := n.Take(i); ok {
					out[keyOf(m)]++
				}
			case 5:
				if n.Drop(i) {
					out[keyOf(was)]++
				}
			}
			for k, count := range out {
				if count > in[k] {
					t.Fatalf("P13.4: seed %d: mail %+v came %d times, and was sent %d times", seed, k, count, in[k])
				}
			}
		}
		for m, ok := n.Take(0); ok; m, ok = n.Take(0) {
			out[keyOf(m)]++
		}
		for k, count := range in {
			if out[k] != count {
				t.Fatalf("P13.4: seed %d: mail %+v came %d times, and was sent %d times", seed, k, out[k], count)
			}
		}
	}
}

func TestMailsArriveInOrder(t *testing.T) {
	for _, room := range []int{1, 2, 7, 64, api.MaxMail} {
		r := rand.New(rand.NewSource(int64(room)))
		n := laid(t, room)
		var sent []net.Mail
		arrived := 0
		for range 3 * room {
			for range r.Intn(4) {
				m := someMail(r)
				if n.Send(m.From, m.To, m.Data) == api.OK {
					sent = append(sent, m)
				}
			}
			if m, ok := n.Take(0); ok {
				is(t, "P13.4: the next mail", sent[arrived], m, ok)
				arrived++
			}
		}
		for ; arrived < len(sent); arrived++ {
			m, ok := n.Take(0)
			is(t, "P13.4: the next mail", sent[arrived], m, ok)
		}
		m, ok := n.Take(0)
		none(t, "P13.4: after the last mail", m, ok)
	}
}
