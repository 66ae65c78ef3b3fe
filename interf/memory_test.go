package interf_test

import (
	"fmt"
	"slices"
	"testing"
	"unsafe"

	"althing/api"
	"althing/interf"
)

// scribble writes over a list, and over its spare room.
func scribble[T any](list []T, with T) {
	list = list[:cap(list)]
	for i := range list {
		list[i] = with
	}
}

// P10.4: what Interfere is handed is not changed, its spare room neither.
func TestInterfereMemory(t *testing.T) {
	data := []byte("dataspare")[:4]
	list := []api.Cmd{{Kind: 1, Home: "b", Data: data}, {Kind: 7}, {Kind: 2, Data: data}, {Kind: 1, Home: "spare"}}
	for count := range len(list) {
		interf.Interfere(api.Cmd{Kind: 1, Home: "a", Data: data}, list[:count]...)
		want := []api.Cmd{{Kind: 1, Home: "b", Data: data}, {Kind: 7}, {Kind: 2, Data: data}, {Kind: 1, Home: "spare"}}
		if fmt.Sprint(list) != fmt.Sprint(want) || string(data[:9]) != "dataspare" {
			t.Fatalf("what was handed in: %v, %q", list, data[:9])
		}
	}
}

// P10.4: what Add and Attr are handed is not changed, and Add keeps none of it.
func TestAddMemory(t *testing.T) {
	x := fresh(t, 2)
	text := []byte("home")
	data := []byte("dataspare")[:4]
	c := api.Cmd{Kind: api.Homely, Home: unsafe.String(&text[0], len(text)), Data: data}
	add(t, x, c, id(0, 3), 4)
	attr(t, x, c, 5, 3, 0)
	if string(text) != "home" || string(data[:9]) != "dataspare" {
		t.Errorf("what was handed in: %q, %q", text, data[:9])
	}
	scribble(text, 'x')
	scribble(data, 'y')
	homes(t, x, "home")
	attr(t, x, homely("home"), 5, 3, 0)
	attr(t, x, homely("xxxx"), 1, 0, 0)
}

// P10.4: what Attr tells is new memory, spare room too, of a home that is not known and of a Noop as well.
func TestAttrMemory(t *testing.T) {
	for replicas := 1; replicas <= 7; replicas++ {
		x := fresh(t, replicas)
		add(t, x, homely("a"), id(0, 3), 4)
		add(t, x, global, id(replicas-1, 5), 6)
		for _, c := range []api.Cmd{homely("a"), homely("b"), global, noop} {
			_, first, _ := x.Attr(c)
			_, second, _ := x.Attr(c)
			want := slices.Clone(second)
			scribble(first, 99)
			if !slices.Equal(second, want) {
				t.Errorf("two answers of Attr share memory: %v, not %v", second, want)
			}
			if seq, third, e := x.Attr(c); !slices.Equal(third, want) || e != api.OK {
				t.Errorf("Attr's answer shares memory with the index: %d, %v, not %v", seq, third, want)
			}
		}
	}
}

// P10.4: what Homes tells is new memory, the texts too.
func TestHomesMemory(t *testing.T) {
	x := fresh(t, 1)
	for num, home := range []string{"a", "b", "c"} {
		add(t, x, homely(home), id(0, num+1), 1)
	}
	first, second := x.Homes(), x.Homes()
	for i := range first {
		if unsafe.StringData(first[i]) == unsafe.StringData(second[i]) {
			t.Errorf("two answers of Homes share the text %q", first[i])
		}
	}
	scribble(first, "z")
	if !slices.Equal(second, []string{"a", "b", "c"}) {
		t.Errorf("two answers of Homes share memory: %q", second)
	}
	homes(t, x, "a", "b", "c")
}
