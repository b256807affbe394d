package cache_test

import (
	"math"
	"math/rand"
	"slices"
	"strconv"
	"strings"
	"testing"

	"custumal/api"
	"custumal/cache"
)

func open(t *testing.T, parts, size int) *cache.Cache {
	t.Helper()
	c, err := cache.New(parts, size)
	if err != api.OK || c == nil {
		t.Fatalf("New(%d, %d): %v", parts, size, err)
	}
	return c
}

func expectNames(t *testing.T, c *cache.Cache, part int, want ...string) {
	t.Helper()
	if got := c.Names(part); !slices.Equal(got, want) {
		t.Errorf("names of part %d: %q, not %q", part, got, want)
	}
}

func expectGet(t *testing.T, c *cache.Cache, part int, name, want string, there bool) {
	t.Helper()
	if got, ok := c.Get(part, name); got != want || ok != there {
		t.Errorf("Get(%d, %q): %q, %v", part, name, got, ok)
	}
}

func expectHits(t *testing.T, c *cache.Cache, part, hits, misses int) {
	t.Helper()
	if h, m := c.Hits(part); h != hits || m != misses {
		t.Errorf("Hits(%d): %d, %d, not %d, %d", part, h, m, hits, misses)
	}
}

func put(t *testing.T, c *cache.Cache, part int, names ...string) {
	t.Helper()
	for _, name := range names {
		if err := c.Put(part, name, "of "+name); err != api.OK {
			t.Fatalf("Put(%d, %q): %v", part, name, err)
		}
	}
}

// The chapter's example (P20.1).
func TestExample(t *testing.T) {
	c := open(t, 1, 2)
	put(t, c, 0, "a", "b")
	expectGet(t, c, 0, "a", "of a", true)
	put(t, c, 0, "c")
	expectNames(t, c, 0, "c", "a")
	expectGet(t, c, 0, "b", "", false)
}

// There are 1 to 8 parts, of 1 to 256 places each; else there is no cache (P20.1).
func TestNew(t *testing.T) {
	for _, parts := range []int{math.MinInt, -1, 0, 1, 2, 7, 8, 9, 256, 257, 1<<32 + 1, math.MaxInt} {
		for _, size := range []int{math.MinInt, -1, 0, 1, 2, 8, 9, 255, 256, 257, 1<<32 + 1, math.MaxInt} {
			c, err := cache.New(parts, size)
			good := parts >= 1 && parts <= 8 && size >= 1 && size <= 256
			if (c != nil) != good || good && err != api.OK || !good && err != api.ErrArg {
				t.Errorf("New(%d, %d): %v", parts, size, err)
			}
		}
	}
}

// A new cache keeps nothing, and of all its parts nothing was asked (P20.1).
func TestNewOnes(t *testing.T) {
	for parts := 1; parts <= 8; parts++ {
		c := open(t, parts, 1)
		for part := range parts {
			expectNames(t, c, part)
			expectHits(t, c, part, 0, 0)
			expectGet(t, c, part, "", "", false)
			expectHits(t, c, part, 0, 1)
		}
	}
}

// As many names are kept as there are places, and not one more: the one not used for the longest goes (P20.1).
func TestPlaces(t *testing.T) {
	for _, size := range []int{1, 2, 3, 255, 256} {
		c := open(t, 1, size)
		var names []string
		for i := range size {
			name := strconv.Itoa(i)
			put(t, c, 0, name)
			names = append([]string{name}, names...)
			expectNames(t, c, 0, names...)
		}
		for i := range 2 * size {
			name := strconv.Itoa(size + i)
			put(t, c, 0, name)
			names = append([]string{name}, names[:size-1]...)
			expectNames(t, c, 0, names...)
		}
		for _, name := range names {
			expectGet(t, c, 0, name, "of "+name, true)
		}
		expectGet(t, c, 0, "0", "", false)
		expectHits(t, c, 0, size, 1)
	}
}

// A name put again is there once, is the last one used, and has what was put last; it makes no other one go (P20.1).
func TestPutAgain(t *testing.T) {
	c := open(t, 1, 3)
	put(t, c, 0, "a", "b", "c")
	for _, name := range []string{"a", "c", "c", "b", "a"} {
		if err := c.Put(0, name, "newer "+name); err != api.OK {
			t.Fatal(err)
		}
	}
	expectNames(t, c, 0, "a", "b", "c")
	for _, name := range []string{"a", "b", "c"} {
		expectGet(t, c, 0, name, "newer "+name, true)
	}
	put(t, c, 0, "d")
	expectNames(t, c, 0, "d", "c", "b")
	put(t, c, 0, "b", "e")
	expectNames(t, c, 0, "e", "b", "d")
}

// A name that is got is the last one used; one that isn't there moves nothing (P20.1).
func TestGet(t *testing.T) {
	c := open(t, 1, 3)
	put(t, c, 0, "a", "b", "c")
	expectGet(t, c, 0, "b", "of b", true)
	expectNames(t, c, 0, "b", "c", "a")
	expectGet(t, c, 0, "d", "", false)
	expectGet(t, c, 0, "", "", false)
	expectNames(t, c, 0, "b", "c", "a")
	expectGet(t, c, 0, "b", "of b", true)
	expectGet(t, c, 0, "a", "of a", true)
	expectNames(t, c, 0, "a", "b", "c")
	put(t, c, 0, "d")
	expectNames(t, c, 0, "d", "a", "b")
	expectHits(t, c, 0, 3, 2)
}

// Names are told without being used, and each time alike; asking how often is not counted (P20.1).
func TestNamesUseNothing(t *testing.T) {
	c := open(t, 1, 2)
	put(t, c, 0, "a", "b")
	for range 3 {
		expectNames(t, c, 0, "b", "a")
		expectHits(t, c, 0, 0, 0)
	}
	put(t, c, 0, "c")
	expectNames(t, c, 0, "c", "b")
}

// Behind Drop nothing of the part is kept any more; its counts stay (P20.1).
func TestDrop(t *testing.T) {
	c := open(t, 2, 2)
	put(t, c, 0, "a", "b")
	put(t, c, 1, "a")
	expectGet(t, c, 0, "a", "of a", true)
	expectGet(t, c, 0, "x", "", false)
	expectGet(t, c, 0, "y", "", false)
	for range 2 {
		if err := c.Drop(0); err != api.OK {
			t.Error(err)
		}
		expectNames(t, c, 0)
		expectHits(t, c, 0, 1, 2)
	}
	expectGet(t, c, 0, "a", "", false)
	expectHits(t, c, 0, 1, 3)
	put(t, c, 0, "b", "c", "a")
	expectNames(t, c, 0, "a", "c")
	expectGet(t, c, 0, "c", "of c", true)
	expectHits(t, c, 0, 2, 3)
	expectNames(t, c, 1, "a")
	expectHits(t, c, 1, 0, 0)
}

// Names and what is kept are all texts, also none: what is kept may be nothing, and is there (P20.1).
func TestAllTexts(t *testing.T) {
	c := open(t, 1, 8)
	texts := []string{"", "\x00", "\x00\x00", "a", "A", "\xff\xfe", "ä", strings.Repeat("long", 20000)}
	for i, name := range texts {
		if err := c.Put(0, name, texts[len(texts)-1-i]); err != api.OK {
			t.Error(err)
		}
	}
	for i, name := range texts {
		expectGet(t, c, 0, name, texts[len(texts)-1-i], true)
	}
	slices.Reverse(texts)
	expectNames(t, c, 0, texts...)
}

// expectNone: of a part that isn't there nothing is told, and nothing counted.
func expectNone(t *testing.T, c *cache.Cache, part int) {
	t.Helper()
	for range 2 {
		expectGet(t, c, part, "a", "", false)
		expectHits(t, c, part, 0, 0)
		expectNames(t, c, part)
		if err := c.Put(part, "a", "b"); err != api.ErrArg {
			t.Errorf("Put(%d): %v", part, err)
		}
		if err := c.Drop(part); err != api.ErrArg {
			t.Errorf("Drop(%d): %v", part, err)
		}
	}
}

// A part that isn't there, a nil cache and one that New didn't make: ErrArg, nothing (P20.1, P1).
func TestNoSuchPart(t *testing.T) {
	var none *cache.Cache
	for _, part := range []int{math.MinInt, -1, 0, 1, 7, 8, math.MaxInt} {
		expectNone(t, none, part)
		expectNone(t, &cache.Cache{}, part)
	}
	for parts := 1; parts <= 8; parts++ {
		c := open(t, parts, 2)
		for part := range parts {
			put(t, c, part, "a", "b")
			expectGet(t, c, part, "c", "", false)
		}
		for _, part := range []int{math.MinInt, -256, -1, parts, parts + 1, 256, 1 << 32, math.MaxInt} {
			expectNone(t, c, part)
		}
		for part := range parts {
			expectNames(t, c, part, "b", "a")
			expectHits(t, c, part, 0, 1)
		}
	}
}

// Names are new memory: whatever becomes of them, the cache's stay (rule 4).
func TestNamesAreNew(t *testing.T) {
	c := open(t, 2, 4)
	put(t, c, 0, "a", "b", "c")
	put(t, c, 1, "d")
	for range 2 {
		for part := range 2 {
			names := c.Names(part)
			names = names[:cap(names)]
			for i := range names {
				names[i] = "spoilt"
			}
		}
		expectNames(t, c, 0, "c", "b", "a")
		expectNames(t, c, 1, "d")
	}
	one, other := c.Names(0), c.Names(0)
	one[0] = "spoilt"
	if other[0] != "c" {
		t.Error("two answers share their memory")
	}
}

// A shelf is a part told of apart: what was put by each name, and when each was used last.
type shelf struct {
	what         map[string]string
	used         map[string]int
	time         int
	hits, misses int
}

func newShelf() *shelf { return &shelf{what: map[string]string{}, used: map[string]int{}} }

func (s *shelf) use(name string) {
	s.time++
	s.used[name] = s.time
}

func (s *shelf) get(name string) (string, bool) {
	what, there := s.what[name]
	if !there {
		s.misses++
		return "", false
	}
	s.hits++
	s.use(name)
	return what, true
}

func (s *shelf) put(name, what string, size int) {
	s.what[name] = what
	s.use(name)
	if len(s.what) > size {
		names := s.names()
		delete(s.what, names[len(names)-1])
	}
}

func (s *shelf) names() (names []string) {
	for name := range s.what {
		names = append(names, name)
	}
	slices.SortFunc(names, func(a, b string) int { return s.used[b] - s.used[a] })
	return names
}

// Told by chance, a cache answers as its parts told of apart (P20.1), and each part as one of a cache of its own, whatever the others are told (P20.2).
func TestByChance(t *testing.T) {
	for seed := range int64(60) {
		r := rand.New(rand.NewSource(seed))
		parts, size := 1+r.Intn(8), 1+r.Intn(6)
		c := open(t, parts, size)
		var shelves []*shelf
		var alone []*cache.Cache
		for range parts {
			shelves, alone = append(shelves, newShelf()), append(alone, open(t, 1, size))
		}
		for range 600 {
			part, name, what := r.Intn(parts), strconv.Itoa(r.Intn(2*size)), strconv.Itoa(r.Int())
			s, a := shelves[part], alone[part]
			switch r.Intn(20) {
			case 0:
				s.what = map[string]string{}
				c.Drop(part)
				a.Drop(0)
			case 1, 2, 3, 4, 5, 6, 7, 8, 9:
				s.put(name, what, size)
				c.Put(part, name, what)
				a.Put(0, name, what)
			default:
				want, there := s.get(name)
				expectGet(t, c, part, name, want, there)
				expectGet(t, a, 0, name, want, there)
			}
			expectNames(t, c, part, s.names()...)
			expectNames(t, a, 0, s.names()...)
		}
		for part, s := range shelves {
			expectNames(t, c, part, s.names()...)
			expectHits(t, c, part, s.hits, s.misses)
			expectHits(t, alone[part], 0, s.hits, s.misses)
		}
	}
}
