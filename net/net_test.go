package net_test

import (
	"bytes"
	"math"
	"slices"
	"strings"
	"testing"

	"headrace/api"
	"headrace/net"
)

// mail makes a mail of a text.
func mail(from, to int, data string) net.Mail {
	return net.Mail{From: from, To: to, Data: []byte(data)}
}

// same tells whether two mails are the same.
func same(a, b net.Mail) bool {
	return a.From == b.From && a.To == b.To && bytes.Equal(a.Data, b.Data)
}

// expect holds an error to the one that is wanted.
func expect(t *testing.T, what string, want, got api.Errno) {
	t.Helper()
	if got != want {
		t.Fatalf("%s: error %d, not %d", what, got, want)
	}
}

// is holds a mail that was returned to the one that is wanted.
func is(t *testing.T, what string, want, got net.Mail, ok bool) {
	t.Helper()
	if !ok || !same(want, got) {
		t.Fatalf("%s: mail %+v, %t, not %+v", what, got, ok, want)
	}
}

// none holds a mail that was returned to being none.
func none(t *testing.T, what string, got net.Mail, ok bool) {
	t.Helper()
	if ok || got.From != 0 || got.To != 0 || len(got.Data) != 0 {
		t.Fatalf("%s: mail %+v, %t, where there is none", what, got, ok)
	}
}

// holds holds the net to these mails, by all the calls that tell of them.
func holds(t *testing.T, what string, n *net.Net, want ...net.Mail) {
	t.Helper()
	if n.Len() != len(want) {
		t.Fatalf("%s: %d mails, not %d", what, n.Len(), len(want))
	}
	counts := map[int]int{0: 0, 99: 0}
	for i, w := range want {
		m, ok := n.At(i)
		is(t, what, w, m, ok)
		counts[w.To]++
	}
	for to, count := range counts {
		if n.Count(to) != count {
			t.Fatalf("%s: %d mails for %d, not %d", what, n.Count(to), to, count)
		}
	}
	for _, i := range nowhere(len(want)) {
		m, ok := n.At(i)
		none(t, what, m, ok)
	}
}

// nowhere lists indexes at which a list of so many has nothing.
func nowhere(size int) []int {
	return []int{-1, -2, -size - 1, size, size + 1, 2 * size, 1 << 32, 1 << 62, math.MinInt, math.MaxInt}
}

// row makes mails of the letters, each from its number to one of three nodes.
func row(letters string) []net.Mail {
	var l []net.Mail
	for i := range letters {
		l = append(l, mail(i, 40+i%3, letters[i:i+1]))
	}
	return l
}

// laid makes a net with these mails.
func laid(t *testing.T, room int, mails ...net.Mail) *net.Net {
	t.Helper()
	n, e := net.New(room)
	expect(t, "P13.1: New", api.OK, e)
	for _, m := range mails {
		expect(t, "P13.1: Send", api.OK, n.Send(m.From, m.To, m.Data))
	}
	return n
}

func TestExamples(t *testing.T) {
	n, e := net.New(0)
	expect(t, "P13.1: New(0)", api.ErrRange, e)
	if n != nil {
		t.Error("P13.1: New(0) returns a net")
	}
	n, e = net.New(2)
	expect(t, "P13.1: New(2)", api.OK, e)
	expect(t, "P13.1: Send", api.OK, n.Send(1, 2, []byte("a")))
	expect(t, "P13.1: Send", api.OK, n.Send(1, 3, []byte("b")))
	expect(t, "P13.1: Send", api.ErrFull, n.Send(1, 2, []byte("c")))
	expect(t, "P13.2: Twice(0)", api.ErrFull, n.Twice(0))
	if n.Drop(5) || !n.Move(1, -3) {
		t.Error("P13.2: Drop(5) or Move(1, -3)")
	}
	m, ok := n.At(0)
	is(t, "P13.2: At(0)", mail(1, 3, "b"), m, ok)
	m, ok = n.Take(0)
	is(t, "P13.2: Take(0)", mail(1, 3, "b"), m, ok)
	if n.Count(2) != 1 {
		t.Errorf("P13.2: Count(2) is %d", n.Count(2))
	}
}

// P13.1

func TestRooms(t *testing.T) {
	for _, room := range []int{0, -1, -4096, api.MaxMail + 1, 2 * api.MaxMail, 1 << 32, math.MinInt, math.MaxInt} {
		n, e := net.New(room)
		expect(t, "P13.1: New", api.ErrRange, e)
		if n != nil {
			t.Errorf("P13.1: New(%d) returns a net", room)
		}
	}
	for _, room := range []int{1, 2, 3, 64, api.MaxMail - 1, api.MaxMail} {
		n := laid(t, room)
		holds(t, "P13.1: a new net", n)
		for i := range room {
			if n.Len() != i {
				t.Fatalf("P13.1: %d mails, not %d", n.Len(), i)
			}
			expect(t, "P13.1: Send", api.OK, n.Send(i, -i, []byte{byte(i)}))
		}
		for range 3 {
			expect(t, "P13.1: Send to a full net", api.ErrFull, n.Send(1, 2, []byte("more")))
			expect(t, "P13.1: Send to a full net", api.ErrFull, n.Send(0, 0, nil))
		}
		if n.Len() != room {
			t.Errorf("P13.1: %d mails, not %d", n.Len(), room)
		}
		m, ok := n.At(room - 1)
		is(t, "P13.1: the last mail", net.Mail{From: room - 1, To: 1 - room, Data: []byte{byte(room - 1)}}, m, ok)
	}
}

func TestRoomThatIsLeft(t *testing.T) {
	l := row("abcd")
	n := laid(t, 3, l[:3]...)
	for range 20 {
		expect(t, "P13.1", api.ErrFull, n.Send(l[3].From, l[3].To, l[3].Data))
		holds(t, "P13.1: a full net", n, l[:3]...)
		n.Take(2)
		expect(t, "P13.1: after a Take", api.OK, n.Send(l[3].From, l[3].To, l[3].Data))
		holds(t, "P13.1", n, l[0], l[1], l[3])
		expect(t, "P13.1", api.ErrFull, n.Send(0, 0, nil))
		n.Drop(2)
		expect(t, "P13.1: after a Drop", api.OK, n.Send(l[2].From, l[2].To, l[2].Data))
	}
}

func TestSendsOfAnything(t *testing.T) {
	all := make([]byte, 256)
	for i := range all {
		all[i] = byte(i)
	}
	var l []net.Mail
	for _, data := range []string{"", "\x00", "a", "\xff\xfe", string(all), strings.Repeat("long", 1<<20)} {
		for _, node := range []int{0, 1, -1, 31, 32, math.MinInt, math.MaxInt} {
			l = append(l, mail(node, -node, data), mail(7, node, data))
		}
	}
	holds(t, "P13.1", laid(t, len(l), l...), l...)
	n := laid(t, 2, net.Mail{From: 3, To: 4}, net.Mail{From: 5, To: 6, Data: []byte{}})
	holds(t, "P13.1: no bytes", n, mail(3, 4, ""), mail(5, 6, ""))
}

func TestNetsAreApart(t *testing.T) {
	l := row("ab")
	a, b := laid(t, 2, l[0]), laid(t, 2, l[1])
	a.Twice(0)
	holds(t, "P13.1", a, l[0], l[0])
	holds(t, "P13.1", b, l[1])
	holds(t, "P13.1", laid(t, 2))
}

// P13.2

func TestNoSuchMail(t *testing.T) {
	l := row("abc")
	for size := range 4 {
		for room := max(size, 1); room <= size+1; room++ {
			n := laid(t, room, l[:size]...)
			for _, i := range nowhere(size) {
				m, ok := n.Take(i)
				none(t, "P13.2: Take", m, ok)
				if n.Drop(i) {
					t.Errorf("P13.2: Drop(%d) of %d mails", i, size)
				}
				expect(t, "P13.2: Twice", api.ErrNone, n.Twice(i))
				for _, to := range append(nowhere(size), 0, 1, 2) {
					if n.Move(i, to) {
						t.Errorf("P13.2: Move(%d, %d) of %d mails", i, to, size)
					}
				}
				holds(t, "P13.2: what changes nothing", n, l[:size]...)
			}
		}
	}
}

func TestTakeAndDrop(t *testing.T) {
	for size := 1; size <= 5; size++ {
		for i := range size {
			l := row("abcde"[:size])
			left := slices.Concat(l[:i], l[i+1:])
			n := laid(t, 9, l...)
			m, ok := n.Take(i)
			is(t, "P13.2: Take", l[i], m, ok)
			holds(t, "P13.2: after a Take", n, left...)
			n = laid(t, 9, l...)
			if !n.Drop(i) {
				t.Errorf("P13.2: Drop(%d) of %d mails", i, size)
			}
			holds(t, "P13.2: after a Drop", n, left...)
		}
	}
}

func TestTwice(t *testing.T) {
	for size := 1; size <= 5; size++ {
		for i := range size {
			l := row("abcde"[:size])
			n := laid(t, size+2, l...)
			expect(t, "P13.2: Twice", api.OK, n.Twice(i))
			holds(t, "P13.2: after a Twice", n, append(l, l[i])...)
			expect(t, "P13.2: Twice of a copy", api.OK, n.Twice(size))
			holds(t, "P13.2: after two", n, append(l, l[i], l[i])...)
			for k := range size + 2 {
				expect(t, "P13.2: Twice in a full net", api.ErrFull, n.Twice(k))
			}
			for _, k := range nowhere(size + 2) {
				expect(t, "P13.2: Twice of no mail in a full net", api.ErrNone, n.Twice(k))
			}
			holds(t, "P13.2: what changes nothing", n, append(l, l[i], l[i])...)
			n.Drop(i)
			m, ok := n.Take(n.Len() - 1)
			is(t, "P13.2: the copy of a mail that is dropped", l[i], m, ok)
		}
	}
}

func TestMove(t *testing.T) {
	for size := 1; size <= 6; size++ {
		for i := range size {
			for to := -3; to <= size+3; to++ {
				holdMove(t, size, i, to)
			}
			for _, to := range nowhere(size) {
				holdMove(t, size, i, to)
			}
		}
	}
}

// holdMove holds a Move to what a walk along the list in single steps makes.
func holdMove(t *testing.T, size, i, to int) {
	t.Helper()
	l := row("abcdef"[:size])
	n := laid(t, size, l...)
	if !n.Move(i, to) {
		t.Fatalf("P13.2: Move(%d, %d) of %d mails", i, to, size)
	}
	for ; i > 0 && i > to; i-- {
		l[i-1], l[i] = l[i], l[i-1]
	}
	for ; i < size-1 && i < to; i++ {
		l[i+1], l[i] = l[i], l[i+1]
	}
	holds(t, "P13.2: Move", n, l...)
}

func TestMoveAsWritten(t *testing.T) {
	for _, c := range []struct {
		i, to int
		want  string
	}{{0, 0, "abcd"}, {0, 1, "bacd"}, {0, 3, "bcda"}, {0, 4, "bcda"}, {1, 2, "acbd"}, {2, 1, "acbd"}, {1, math.MaxInt, "acdb"}, {3, 0, "dabc"}, {3, -1, "dabc"}, {2, math.MinInt, "cabd"}, {2, 2, "abcd"}} {
		n := laid(t, 4, row("abcd")...)
		got := ""
		ok := n.Move(c.i, c.to)
		for k := range n.Len() {
			m, _ := n.At(k)
			got += string(m.Data)
		}
		if !ok || got != c.want {
			t.Errorf("P13.2: Move(%d, %d) makes %s, %t, not %s", c.i, c.to, got, ok, c.want)
		}
	}
}

func TestCount(t *testing.T) {
	n := laid(t, 9, mail(1, 2, "a"), mail(2, 1, "b"), mail(1, 2, "c"), mail(2, 2, ""), mail(5, -5, "d"), mail(5, math.MinInt, "e"))
	for to, want := range map[int]int{2: 3, 1: 1, -5: 1, math.MinInt: 1, 5: 0, 0: 0, -1: 0, math.MaxInt: 0} {
		if got := n.Count(to); got != want {
			t.Errorf("P13.2: Count(%d) is %d, not %d", to, got, want)
		}
	}
	n.Twice(0)
	n.Drop(3)
	n.Take(0)
	n.Move(0, 9)
	if n.Count(2) != 2 || n.Count(1) != 1 {
		t.Errorf("P13.2: Count is %d, %d", n.Count(2), n.Count(1))
	}
	if laid(t, 1).Count(0) != 0 {
		t.Error("P13.2: Count of no mails")
	}
}
