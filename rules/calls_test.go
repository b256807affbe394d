package rules_test

import (
	"bytes"
	"math"
	"testing"

	"custumal/api"
	"custumal/bundle"
	"custumal/cache"
	"custumal/cadence"
	"custumal/chain"
	"custumal/codec"
	"custumal/commit"
	"custumal/direct"
	"custumal/disk"
	"custumal/edwards"
	"custumal/extent"
	"custumal/extract"
	"custumal/fan"
	"custumal/field"
	"custumal/hmac"
	"custumal/host"
	"custumal/journal"
	"custumal/keep"
	"custumal/monitor"
	"custumal/path"
	"custumal/proof"
	"custumal/rfclog"
	"custumal/scalar"
	"custumal/sha2"
	"custumal/sha5"
	"custumal/shell"
	"custumal/sign"
	"custumal/super"
	"custumal/survey"
	"custumal/tenant"
	"custumal/tree"
	"custumal/verify"
	"custumal/vrf"
	"custumal/wire"
	"custumal/world"
)

// The calls of layers 1 to 34 have just these signatures; what doesn't have them doesn't build.
var (
	_ func(...[]byte) [32]byte         = sha2.Sum
	_ func() *sha2.Hash                = sha2.New
	_ func(*sha2.Hash, []byte)         = (*sha2.Hash).Write
	_ func(*sha2.Hash) [32]byte        = (*sha2.Hash).Sum
	_ func(*sha2.Hash) int             = (*sha2.Hash).Len
	_ func(*sha2.Hash) *sha2.Hash      = (*sha2.Hash).Fork
	_ func(...[]byte) [64]byte         = sha5.Sum
	_ func([]byte, ...[]byte) [32]byte = hmac.Of

	_ func([32]byte, string, int) [32]byte = hmac.Key
	_ func(a, b []byte) bool               = hmac.Same

	_ func(*codec.Writer, int)                = (*codec.Writer).Byte
	_ func(*codec.Writer, bool)               = (*codec.Writer).Flag
	_ func(*codec.Writer, int)                = (*codec.Writer).Num
	_ func(*codec.Writer, [32]byte)           = (*codec.Writer).Sum
	_ func(*codec.Writer, []byte)             = (*codec.Writer).Text
	_ func(*codec.Writer) ([]byte, api.Errno) = (*codec.Writer).Bytes
	_ func([]byte) *codec.Reader              = codec.Read
	_ func(*codec.Reader) int                 = (*codec.Reader).Byte
	_ func(*codec.Reader) bool                = (*codec.Reader).Flag
	_ func(*codec.Reader) int                 = (*codec.Reader).Num
	_ func(*codec.Reader) [32]byte            = (*codec.Reader).Sum
	_ func(*codec.Reader, int) []byte         = (*codec.Reader).Text
	_ func(*codec.Reader) int                 = (*codec.Reader).Left
	_ func(*codec.Reader) api.Errno           = (*codec.Reader).End

	_ func([32]byte) field.Elem                  = field.Of
	_ func(field.Elem) [32]byte                  = field.Bytes
	_ func(uint64) field.Elem                    = field.Small
	_ func(field.Elem) field.Elem                = field.Rest
	_ func(a, b field.Elem) field.Elem           = field.Add
	_ func(a, b field.Elem) field.Elem           = field.Sub
	_ func(a, b field.Elem) field.Elem           = field.Mul
	_ func(field.Elem) field.Elem                = field.Neg
	_ func(a field.Elem, n [4]uint64) field.Elem = field.Pow
	_ func(field.Elem) field.Elem                = field.Inv
	_ func(u, v field.Elem) (field.Elem, bool)   = field.Root
	_ func(a, b field.Elem) bool                 = field.Same
	_ func(field.Elem) bool                      = field.Odd
	_ [4]uint64                                  = field.Elem{}

	_ func() scalar.Num                 = scalar.Order
	_ func([]byte) scalar.Num           = scalar.Of
	_ func([32]byte) (scalar.Num, bool) = scalar.Canon
	_ func(scalar.Num) [32]byte         = scalar.Bytes
	_ func(a, b scalar.Num) scalar.Num  = scalar.Add
	_ func(a, b scalar.Num) scalar.Num  = scalar.Mul
	_ func(scalar.Num) scalar.Num       = scalar.Neg
	_ func([32]byte) [32]byte           = scalar.Clamp
	_ [4]uint64                         = scalar.Num{}

	_ func() edwards.Point                        = edwards.Base
	_ func([32]byte) (edwards.Point, api.Errno)   = edwards.Decode
	_ func(edwards.Point) [32]byte                = edwards.Point.Encode
	_ func(p, q edwards.Point) edwards.Point      = edwards.Point.Add
	_ func(edwards.Point) edwards.Point           = edwards.Point.Neg
	_ func(edwards.Point, [32]byte) edwards.Point = edwards.Point.Times
	_ func(edwards.Point) edwards.Point           = edwards.Point.Eight
	_ func(p, q edwards.Point) bool               = edwards.Point.Same

	_ func([32]byte) sign.Secret                                   = sign.Spread
	_ func([32]byte, []byte) [64]byte                              = sign.Sign
	_ func(public [32]byte, text []byte, sig [64]byte) api.Errno   = sign.Verify
	_ struct{ Number, Draw, Public [32]byte }                      = sign.Secret{}
	_ func(seed [32]byte, text []byte) ([80]byte, api.Errno)       = vrf.Prove
	_ func([32]byte, []byte, [80]byte) (sum [64]byte, _ api.Errno) = vrf.Check
	_ func([80]byte) (sum [64]byte, _ api.Errno)                   = vrf.Sum
	_ func([64]byte) [32]byte                                      = vrf.Index
	_ [80]byte                                                     = [vrf.Size]byte{}

	_ func(blocks int) (*disk.Disk, api.Errno)          = disk.New
	_ func(*disk.Disk) int                              = (*disk.Disk).Size
	_ func(d *disk.Disk, i int) (disk.Block, api.Errno) = (*disk.Disk).Read
	_ func(*disk.Disk, int, disk.Block) api.Errno       = (*disk.Disk).Write
	_ func(*disk.Disk) api.Errno                        = (*disk.Disk).Sync
	_ func(d *disk.Disk, n int)                         = (*disk.Disk).Arm
	_ func(*disk.Disk) bool                             = (*disk.Disk).Down
	_ func(d *disk.Disk, keep []bool)                   = (*disk.Disk).Crash
	_ func(*disk.Disk) int                              = (*disk.Disk).Writes
	_ func(*disk.Disk) int                              = (*disk.Disk).Waiting
	_ [128]byte                                         = disk.Block{}

	_ func(size int) int                                                                   = journal.Blocks
	_ func(d *disk.Disk, first, size int) api.Errno                                        = journal.Format
	_ func(d *disk.Disk, first, size int) (_ *journal.Journal, recs [][]byte, _ api.Errno) = journal.Open
	_ func(*journal.Journal, []byte) api.Errno                                             = (*journal.Journal).Append
	_ func(*journal.Journal) int                                                           = (*journal.Journal).Len
	_ func(*journal.Journal) int                                                           = (*journal.Journal).Room
	_ [117]byte                                                                            = [journal.Part]byte{}

	_ func(d *disk.Disk, first, count, size int) (*extent.Extents, api.Errno) = extent.New
	_ func(*extent.Extents) int                                               = (*extent.Extents).Count
	_ func(x *extent.Extents, i int) (first, size int, _ api.Errno)           = (*extent.Extents).Area
	_ func(x *extent.Extents, block int) int                                  = (*extent.Extents).Of
	_ func(x *extent.Extents, i int) api.Errno                                = (*extent.Extents).Zero
	_ func(x *extent.Extents, i int) (bool, api.Errno)                        = (*extent.Extents).Clear
	_ func(*extent.Extents) ([]int, api.Errno)                                = (*extent.Extents).Foul

	_ func(k path.Key, i int) int              = path.Key.Bit
	_ func(k, l path.Key) int                  = path.Key.Common
	_ func(k, l path.Key) bool                 = path.Key.Less
	_ func(k path.Key, i int) path.Key         = path.Key.Flip
	_ func(k path.Key, l path.Key, n int) bool = path.Key.Under
	_ func([]path.Key) []path.Key              = path.Sort
	_ [32]byte                                 = path.Key{}
	_ [256]byte                                = [path.Bits]byte{}

	_ func([]tree.Leaf) *tree.Tree                                            = tree.Of
	_ func(*tree.Tree, tree.Leaf) *tree.Tree                                  = (*tree.Tree).Put
	_ func(*tree.Tree, path.Key) (value [32]byte, there bool, met int)        = (*tree.Tree).Get
	_ func(*tree.Tree) [32]byte                                               = (*tree.Tree).Root
	_ func(*tree.Tree) int                                                    = (*tree.Tree).Len
	_ func(*tree.Tree) []tree.Leaf                                            = (*tree.Tree).Leaves
	_ func(*tree.Tree, path.Key) (sums [][32]byte, end tree.Leaf, there bool) = (*tree.Tree).Beside
	_ func() [32]byte                                                         = tree.Empty
	_ func(tree.Leaf) [32]byte                                                = tree.LeafSum
	_ func(depth int, left, right [32]byte) [32]byte                          = tree.NodeSum
	_ struct {
		Key   path.Key
		Value [32]byte
	} = tree.Leaf{}

	_ func(*tree.Tree, path.Key) proof.Proof                                                   = proof.Prove
	_ func(root [32]byte, k path.Key, p proof.Proof) (value [32]byte, there bool, _ api.Errno) = proof.Check
	_ func(path.Key, proof.Proof) [][]byte                                                     = proof.Texts
	_ func(*codec.Writer, proof.Proof)                                                         = proof.Put
	_ func(*codec.Reader) (proof.Proof, api.Errno)                                             = proof.Take
	_ struct {
		Sums  [][32]byte
		There bool
		End   tree.Leaf
	} = proof.Proof{}

	_ func(*rfclog.Log, []byte) int                                       = (*rfclog.Log).Add
	_ func(*rfclog.Log) int                                               = (*rfclog.Log).Len
	_ func(l *rfclog.Log, n int) ([32]byte, api.Errno)                    = (*rfclog.Log).Root
	_ func(l *rfclog.Log, i, n int) ([][32]byte, api.Errno)               = (*rfclog.Log).Inclusion
	_ func(l *rfclog.Log, m, n int) ([][32]byte, api.Errno)               = (*rfclog.Log).Consistency
	_ func([]byte) [32]byte                                               = rfclog.EntrySum
	_ func(entry []byte, i, n int, p [][32]byte, root [32]byte) api.Errno = rfclog.CheckInclusion
	_ func(m, n int, p [][32]byte, old, root [32]byte) api.Errno          = rfclog.CheckConsistency

	_ func(key, index [32]byte, version int, value []byte) (bound, open [32]byte) = commit.Make
	_ func(bound, open, index [32]byte, version int, value []byte) api.Errno      = commit.Check
	_ func(open, index [32]byte, version int, value []byte) [][]byte              = commit.Texts

	_ func(id []byte) [32]byte                                                             = chain.First
	_ func(id []byte, epoch int, root, ahead [32]byte) [32]byte                            = chain.Next
	_ func(id []byte, epoch int, root, ahead [32]byte) []byte                              = chain.Text
	_ func(id []byte, from int, ahead [32]byte, roots, links [][32]byte) (check api.Errno) = chain.Check

	_ func(id []byte, k direct.Keys, l direct.Limits) (*direct.Directory, api.Errno) = direct.New
	_ func(*direct.Directory) []byte                                                 = (*direct.Directory).Id
	_ func(*direct.Directory) direct.Keys                                            = (*direct.Directory).Keys
	_ func(*direct.Directory) direct.Limits                                          = (*direct.Directory).Limits
	_ func(d *direct.Directory, epoch int) ([]direct.Pair, api.Errno)                = (*direct.Directory).Made
	_ func(*direct.Directory) []direct.Pair                                          = (*direct.Directory).Waits
	_ func(*direct.Directory) [32]byte                                               = (*direct.Directory).Public
	_ func(d *direct.Directory, label, value []byte) api.Errno                       = (*direct.Directory).Put
	_ func(*direct.Directory) (int, api.Errno)                                       = (*direct.Directory).Seal
	_ func(*direct.Directory) int                                                    = (*direct.Directory).Epoch
	_ func(*direct.Directory) int                                                    = (*direct.Directory).Waiting
	_ func(*direct.Directory) int                                                    = (*direct.Directory).Labels
	_ func(d *direct.Directory, label []byte, epoch int) (direct.Found, api.Errno)   = (*direct.Directory).Lookup
	_ func(d *direct.Directory, label []byte) ([]direct.Entry, api.Errno)            = (*direct.Directory).History
	_ func(d *direct.Directory, from, to int) ([]direct.Mark, api.Errno)             = (*direct.Directory).Audit
	_ struct{ Vrf, Bind [32]byte }                                                   = direct.Keys{}
	_ struct{ Labels, Pending, Epochs int }                                          = direct.Limits{}
	_ struct{ Label, Value []byte }                                                  = direct.Pair{}
	_ struct {
		Epoch, Version int
		Value          []byte
	} = direct.Entry{}
	_ struct {
		Epoch int
		Root  [32]byte
		Link  [32]byte
	} = direct.Mark{}
	_ struct {
		Epoch   int
		Index   [32]byte
		Vrf     [80]byte
		Present bool
		Version int
		Value   []byte
		Bound   [32]byte
		Open    [32]byte
		Proof   proof.Proof
		Root    [32]byte
		Link    [32]byte
		Ahead   [32]byte
		Reads   int
	} = direct.Found{}

	_ func(parts, size int) (*cache.Cache, api.Errno)               = cache.New
	_ func(c *cache.Cache, part int, name string) (string, bool)    = (*cache.Cache).Get
	_ func(c *cache.Cache, part int, name, what string) api.Errno   = (*cache.Cache).Put
	_ func(c *cache.Cache, part int) api.Errno                      = (*cache.Cache).Drop
	_ func(c *cache.Cache, part int) []string                       = (*cache.Cache).Names
	_ func(c *cache.Cache, part int) (hits, misses int)             = (*cache.Cache).Hits
	_ func(now int) (*cadence.Schedule, api.Errno)                  = cadence.New
	_ func(*cadence.Schedule) int                                   = (*cadence.Schedule).Now
	_ func(*cadence.Schedule) ([]string, api.Errno)                 = (*cadence.Schedule).Tick
	_ func(s *cadence.Schedule, id string, period, a int) api.Errno = (*cadence.Schedule).Add
	_ func(s *cadence.Schedule, id string) api.Errno                = (*cadence.Schedule).Remove
	_ func(s *cadence.Schedule, id string) (int, api.Errno)         = (*cadence.Schedule).Age
	_ func(s *cadence.Schedule, id string) (int, api.Errno)         = (*cadence.Schedule).Next
	_ func(*cadence.Schedule) []string                              = (*cadence.Schedule).Ids

	_ func(places int) (*tenant.Table, api.Errno)                                          = tenant.New
	_ func(t *tenant.Table, id []byte, k direct.Keys, l direct.Limits) (int, api.Errno)    = (*tenant.Table).Create
	_ func(t *tenant.Table, id []byte, d *direct.Directory) (int, api.Errno)               = (*tenant.Table).Import
	_ func(t *tenant.Table, id []byte, state, place int, d *direct.Directory) api.Errno    = (*tenant.Table).Settle
	_ func(t *tenant.Table, id []byte) api.Errno                                           = (*tenant.Table).Hold
	_ func(t *tenant.Table, id []byte) api.Errno                                           = (*tenant.Table).Free
	_ func(t *tenant.Table, id []byte) (int, api.Errno)                                    = (*tenant.Table).Delete
	_ func(t *tenant.Table, id []byte) int                                                 = (*tenant.Table).State
	_ func(t *tenant.Table, id []byte, held bool) (*direct.Directory, api.Errno)           = (*tenant.Table).Get
	_ func(t *tenant.Table, id []byte) (int, api.Errno)                                    = (*tenant.Table).Place
	_ func(t *tenant.Table, state int) []string                                            = (*tenant.Table).Ids
	_ func(*tenant.Table) int                                                              = (*tenant.Table).Room
	_ [6]byte                                                                              = [tenant.Nobody + tenant.Live + tenant.Held + tenant.Gone]byte{}
	_ func(seed [32]byte) *super.Super                                                     = super.New
	_ func(seed [32]byte, list []super.Signed, l []super.Member) (*super.Super, api.Errno) = super.Restore
	_ func(*super.Super) [32]byte                                                          = (*super.Super).Public
	_ func(*super.Super, []super.Member) super.Signed                                      = (*super.Super).Seal
	_ func(*super.Super) int                                                               = (*super.Super).Epochs
	_ func(*super.Super) (super.Signed, api.Errno)                                         = (*super.Super).Last
	_ func(s *super.Super, epoch int) (super.Signed, api.Errno)                            = (*super.Super).At
	_ func(s *super.Super, id []byte) proof.Proof                                          = (*super.Super).Prove
	_ func(s *super.Super, epoch, epochs int) ([][32]byte, api.Errno)                      = (*super.Super).Inclusion
	_ func(s *super.Super, from, to int) ([][32]byte, api.Errno)                           = (*super.Super).Consistency
	_ func(s *super.Super, epochs int) ([32]byte, api.Errno)                               = (*super.Super).LogRoot
	_ func(id []byte) path.Key                                                             = super.Key
	_ func(super.Member) [32]byte                                                          = super.Value
	_ func(id []byte) []byte                                                               = super.KeyText
	_ func(super.Member) []byte                                                            = super.ValueText
	_ func(epoch int, root [32]byte) []byte                                                = super.Text
	_ func(public [32]byte, s super.Signed) api.Errno                                      = super.Check
	_ struct {
		Id    []byte
		Gone  bool
		Epoch int
		Link  [32]byte
	} = super.Member{}
	_ struct {
		Epoch int
		Root  [32]byte
		Sig   [64]byte
	} = super.Signed{}

	_ func(wire.Request) ([]byte, api.Errno) = wire.Ask
	_ func([]byte) (wire.Request, api.Errno) = wire.Asked
	_ func(wire.Answer) ([]byte, api.Errno)  = wire.Tell
	_ func([]byte) (wire.Answer, api.Errno)  = wire.Told
	_ func(direct.Found) ([]byte, api.Errno) = wire.Saw
	_ func([]byte) (direct.Found, api.Errno) = wire.Seen
	_ struct {
		Kind   int
		Id     []byte
		Keys   direct.Keys
		Limits direct.Limits
		Period int
		Label  []byte
		Value  []byte
		From   int
		To     int
		Bundle []byte
	} = wire.Request{}
	_ struct {
		Proof  proof.Proof
		Signed super.Signed
		Log    [32]byte
		Sums   [][32]byte
	} = wire.Under{}
	_ struct {
		Kind    int
		Err     api.Errno
		Epoch   int
		Found   direct.Found
		Public  [32]byte
		Later   [][32]byte
		Under   wire.Under
		Entries []direct.Entry
		Marks   []direct.Mark
		Member  super.Member
		Bundle  []byte
		Log     [32]byte
		Sums    [][32]byte
	} = wire.Answer{}

	_ func(bundle.Parcel) ([]byte, api.Errno) = bundle.Pack
	_ func([]byte) (bundle.Parcel, api.Errno) = bundle.Unpack
	_ struct {
		Directory *direct.Directory
		Period    int
		Age       int
		Held      bool
	} = bundle.Parcel{}

	_ func(seed [32]byte, places, now int) (*host.Host, api.Errno)          = host.New
	_ func(seed [32]byte, places int, p host.Parts) (*host.Host, api.Errno) = host.Rebuild
	_ func(*host.Host) host.Parts                                           = (*host.Host).Parts
	_ func(*host.Host) [32]byte                                             = (*host.Host).Public
	_ func(*host.Host, wire.Request) wire.Answer                            = (*host.Host).Serve
	_ func(h *host.Host, b []byte) []byte                                   = (*host.Host).Do
	_ func(*host.Host) api.Errno                                            = (*host.Host).Tick
	_ func(*host.Host) []byte                                               = (*host.Host).State
	_ func(h *host.Host, id []byte) (int, api.Errno)                        = (*host.Host).Place
	_ struct {
		Id                        []byte
		State, Place, Period, Age int
		Directory                 *direct.Directory
		Public                    bool
	} = host.Part{}
	_ struct {
		Now     int
		Tenants []host.Part
		Signed  []super.Signed
		Members []super.Member
	} = host.Parts{}

	_ func(keep.Config) int                                      = keep.Blocks
	_ func(*disk.Disk, keep.Config) (_ *keep.Store, _ api.Errno) = keep.Format
	_ func(*disk.Disk, keep.Config) (_ *keep.Store, _ api.Errno) = keep.Open
	_ func(s *keep.Store, b []byte) []byte                       = (*keep.Store).Do
	_ func(*keep.Store) api.Errno                                = (*keep.Store).Tick
	_ func(*keep.Store) *host.Host                               = (*keep.Store).Host
	_ func(*keep.Store) int                                      = (*keep.Store).Room
	_ struct {
		Seed   [32]byte
		Places int
		Now    int
		Common int
		Each   int
	} = keep.Config{}

	_ func(public [32]byte, id, label []byte, a wire.Answer) (verify.Seen, api.Errno) = verify.Look
	_ func(public [32]byte, id []byte, a wire.Answer) (verify.Seen, api.Errno)        = verify.Stand
	_ func(from, to int, old [32]byte, a wire.Answer) api.Errno                       = verify.Grow
	_ struct {
		Super   int
		Root    [32]byte
		Gone    bool
		Epoch   int
		Link    [32]byte
		At      int
		Index   [32]byte
		Present bool
		Version int
		Value   []byte
	} = verify.Seen{}

	_ func(public [32]byte, id []byte) *monitor.Monitor                             = monitor.New
	_ func(m *monitor.Monitor, stand, growth, audit wire.Answer) api.Errno          = (*monitor.Monitor).Watch
	_ func(*monitor.Monitor) (verify.Seen, bool)                                    = (*monitor.Monitor).Last
	_ func(m *monitor.Monitor, epochs, epoch int) (growth, audit wire.Request)      = (*monitor.Monitor).Asks
	_ func(id []byte, a wire.Answer) [][]byte                                       = extract.Look
	_ func(id []byte, a wire.Answer) [][]byte                                       = extract.Stand
	_ func(a wire.Answer, to int, sums [][32]byte) [][]byte                         = extract.Log
	_ func(a, b [][]byte) (x, y []byte, ok bool)                                    = extract.Find
	_ func(public [32]byte, jobs []fan.Job, workers int) ([]fan.Verdict, api.Errno) = fan.Check
	_ func(public [32]byte, jobs []fan.Job, workers int) (first int, _ api.Errno)   = fan.First
	_ struct{ Id, Label, Answer []byte }                                            = fan.Job{}
	_ struct {
		Seen verify.Seen
		Err  api.Errno
	} = fan.Verdict{}

	_ func(keep.Config, []world.Event) (world.Report, api.Errno) = world.Run
	_ struct {
		Kind  int
		Bytes []byte
		N     int
		Keep  []bool
	} = world.Event{}
	_ struct {
		Answers [][]byte
		Taken   int
		Refused int
		Crashes int
		Twice   int
		State   []byte
	} = world.Report{}
	_ func(script string) string                              = shell.Run
	_ func(*disk.Disk, keep.Config) ([]survey.Row, api.Errno) = survey.Rows
	_ func(l []survey.Row, place int) survey.Totals           = survey.Sum
	_ func([]survey.Row) []int                                = survey.Foul
	_ func([]survey.Row) string                               = survey.Text
	_ struct{ Block, Place, Kind, Record int }                = survey.Row{}
	_ struct{ Empty, Head, Rest, Stray int }                  = survey.Totals{}
)

// The kinds of requests have the numbers of the chapter's table (layer 24).
func TestKinds(t *testing.T) {
	for i, kind := range []int{
		wire.Create, wire.Hold, wire.Free, wire.Delete, wire.Put, wire.Lookup, wire.History, wire.Audit, wire.Export,
		wire.Import, wire.Standing, wire.Growth,
	} {
		if kind != i+1 {
			t.Errorf("kind %d is %d", i+1, kind)
		}
	}
}

// Each call of layers 1 to 4 ends without a panic at nil objects, zero values, nil and empty lists, and numbers far out (P1).
func TestNoCallPanics(t *testing.T) {
	texts := [][]byte{nil, {}, {0}, {2}, {255, 255}, make([]byte, 65535), make([]byte, 65536)}
	numbers := []int{math.MinInt, -1, 0, 1, 255, 256, 65535, 65536, math.MaxInt}
	var noHash *sha2.Hash
	var noWriter *codec.Writer
	var noReader *codec.Reader
	for _, text := range texts {
		sha2.Sum(text, nil, text)
		sha5.Sum(text, nil, text)
		for _, h := range []*sha2.Hash{noHash, {}, sha2.New(), sha2.New().Fork(), noHash.Fork()} {
			h.Write(text)
			h.Sum()
			h.Len()
			h.Fork().Write(text)
		}
		for _, other := range texts {
			hmac.Of(text, other, nil)
			hmac.Same(text, other)
		}
		for _, n := range numbers {
			hmac.Key([32]byte{}, string(text), n)
			for _, w := range []*codec.Writer{noWriter, {}} {
				w.Byte(n)
				w.Num(n)
				w.Text(text)
				w.Bytes()
			}
			for _, r := range []*codec.Reader{noReader, {}, codec.Read(text)} {
				r.Text(n)
				r.Byte()
				r.Flag()
				r.Num()
				r.Sum()
				r.Left()
				r.End()
			}
		}
	}
}

// fours: four parts each of which is nought, one, or the most; the prime and the order are among them too.
func fours() [][4]uint64 {
	all := [][4]uint64{
		scalar.Order(), field.Neg(field.Small(1)),
		{math.MaxUint64 - 18, math.MaxUint64, math.MaxUint64, math.MaxUint64 >> 1},
	}
	words := [3]uint64{0, 1, math.MaxUint64}
	for i := range 81 {
		all = append(all, [4]uint64{words[i%3], words[i/3%3], words[i/9%3], words[i/27]})
	}
	return all
}

// Each call of layers 5 to 7 ends without a panic at all kinds of numbers, and at the zero value of a point (P1).
func TestNoCallOfNumbersPanics(t *testing.T) {
	all := fours()
	for i, a := range all {
		b := all[(7*i+3)%len(all)]
		field.Rest(a)
		field.Add(a, b)
		field.Sub(a, b)
		field.Mul(a, b)
		field.Neg(a)
		field.Pow(a, b)
		field.Inv(a)
		field.Root(a, b)
		field.Same(a, b)
		field.Odd(a)
		field.Small(a[0])
		scalar.Add(a, b)
		scalar.Mul(a, b)
		scalar.Neg(a)
		for _, bytes := range [][32]byte{field.Bytes(a), scalar.Bytes(a), {31: byte(i)}, {byte(i), 31: 255}} {
			field.Of(bytes)
			scalar.Of(bytes[:])
			scalar.Of(bytes[:i%32])
			scalar.Canon(bytes)
			scalar.Clamp(bytes)
			p, _ := edwards.Decode(bytes)
			for _, q := range []edwards.Point{p, {}, edwards.Base()} {
				q.Add(p).Encode()
				q.Neg().Same(p)
				q.Times(bytes)
				q.Eight()
			}
		}
	}
	scalar.Of(nil)
}

// Each call of layers 8 and 9 ends without a panic at all kinds of bytes, points' and numbers' and others, and at all texts (P1).
func TestNoCallOfSignaturesPanics(t *testing.T) {
	texts := [][]byte{nil, {}, {0}, make([]byte, 65537)}
	all := [][32]byte{{}, {1}, {2}, {1, 31: 0x80}, edwards.Base().Encode(), scalar.Bytes(scalar.Neg(scalar.Num{1})), {}}
	for i := range all[6] {
		all[6][i] = 0xff
	}
	for i, a := range all {
		sign.Spread(a)
		for j, b := range all {
			text := texts[(i+j)%len(texts)]
			sign.Sign(a, text)
			vrf.Prove(a, text)
			for _, c := range all {
				sig, proof := [64]byte{}, [vrf.Size]byte{}
				copy(sig[copy(sig[:], b[:]):], c[:])
				copy(proof[copy(proof[:], b[:])+16:], c[:])
				sign.Verify(a, text, sig)
				vrf.Check(a, text, proof)
				vrf.Sum(proof)
				vrf.Index(sig)
			}
		}
	}
}

// disks: none, one that New didn't make, new ones, one whose records go to its end, and one whose power is off.
func disks() []*disk.Disk {
	one, _ := disk.New(1)
	full, _ := disk.New(3)
	j, _, _ := journal.Open(full, 0, 3)
	j.Append(make([]byte, 351))
	off, _ := disk.New(2)
	off.Arm(1)
	off.Write(1, disk.Block{1})
	return []*disk.Disk{nil, {}, one, full, off}
}

// Each call of layers 10 to 12 ends without a panic at nil objects, zero values, numbers far out, and while the power is off (P1).
func TestNoCallOfBlocksPanics(t *testing.T) {
	numbers := []int{math.MinInt, math.MinInt + 1, -1, 0, 1, 2, 3, 117, 65535, 65536, 1 << 32, math.MaxInt - 1, math.MaxInt}
	texts := [][]byte{nil, {}, {1}, make([]byte, 118), make([]byte, 65535), make([]byte, 65536)}
	for _, n := range numbers {
		disk.New(n)
		journal.Blocks(n)
		for _, d := range disks() {
			for _, m := range numbers {
				j, _, _ := journal.Open(d, n, m)
				for _, j := range []*journal.Journal{j, {}} {
					for _, text := range texts {
						j.Append(text)
					}
					j.Len()
					j.Room()
				}
				journal.Format(d, n, m)
				for _, k := range numbers {
					x, _ := extent.New(d, n, m, k)
					for _, x := range []*extent.Extents{x, {}} {
						x.Count()
						x.Area(k)
						x.Of(k)
						x.Zero(k)
						x.Clear(k)
						x.Foul()
					}
				}
			}
			d.Arm(n)
			d.Read(n)
			d.Write(n, disk.Block{1})
			d.Sync()
			d.Size()
			d.Down()
			d.Writes()
			d.Waiting()
			d.Crash(nil)
			d.Write(0, disk.Block{1})
			d.Crash([]bool{true, true, true})
		}
	}
}

// trees: none, the zero value, of one leaf, of two that differ in the last bit alone, and of more.
func trees() []*tree.Tree {
	var none *tree.Tree
	one := none.Put(tree.Leaf{Key: path.Key{1}})
	two := one.Put(tree.Leaf{Key: path.Key{1, 31: 1}})
	return []*tree.Tree{none, {}, one, two, two.Put(tree.Leaf{}).Put(tree.Leaf{Key: path.Key{0xff}}), tree.Of(nil)}
}

// Each call of layers 13 to 15 ends without a panic at nil objects, zero values, all kinds of keys, and numbers far out (P1).
func TestNoCallOfTreesPanics(t *testing.T) {
	keys := []path.Key{{}, {1}, {31: 1}, {0xff}, {1, 31: 1}, {1, 31: 2}}
	numbers := []int{math.MinInt, math.MinInt + 1, -257, -8, -1, 0, 7, 255, 256, 257, 65536, 1 << 32, math.MaxInt}
	counts := []int{0, 1, 255, 256, 257, 1000}
	for _, k := range keys {
		for _, n := range numbers {
			k.Bit(n)
			k.Flip(n)
			tree.NodeSum(n, k, k)
			for _, l := range keys {
				k.Under(l, n)
				k.Common(l)
				k.Less(l)
			}
		}
		for _, made := range trees() {
			made.Put(tree.Leaf{Key: k}).Put(tree.Leaf{Key: k.Flip(255)}).Leaves()
			made.Get(k)
			made.Beside(k)
			made.Len()
			made.Leaves()
			proof.Check(made.Root(), k, proof.Prove(made, k))
		}
		for _, n := range counts {
			for _, p := range []proof.Proof{{Sums: make([][32]byte, n)}, {Sums: make([][32]byte, n), There: true, End: tree.Leaf{Key: k}}} {
				proof.Check([32]byte{}, k, p)
				proof.Texts(k, p)
				var noWriter *codec.Writer
				for _, w := range []*codec.Writer{noWriter, {}} {
					proof.Put(w, p)
					b, _ := w.Bytes()
					proof.Take(codec.Read(b))
				}
			}
		}
	}
	for _, n := range numbers {
		var w codec.Writer
		w.Num(n)
		b, _ := w.Bytes()
		proof.Take(codec.Read(b))
	}
	for _, r := range []*codec.Reader{nil, {}, codec.Read(nil), codec.Read([]byte{0})} {
		proof.Take(r)
		proof.Take(r)
	}
	proof.Texts(path.Key{}, proof.Proof{Sums: make([][32]byte, 70000)})
	path.Sort(nil)
	path.Sort(keys)
	tree.Of([]tree.Leaf{{}, {}, {}})
	tree.LeafSum(tree.Leaf{})
	tree.Empty()
}

// Each call of layer 16 ends without a panic, and soon, at a nil log, the zero value, and numbers far out (P1).
func TestNoCallOfLogsPanics(t *testing.T) {
	numbers := []int{math.MinInt, math.MinInt + 1, -1, 0, 1, 2, 3, 4, 1 << 32, 1 << 62, 1<<62 + 1, math.MaxInt - 1, math.MaxInt}
	var noLog *rfclog.Log
	for _, l := range []*rfclog.Log{noLog, {}, {}, {}} {
		for _, entry := range [][]byte{nil, {}, {1}, make([]byte, 65536)} {
			for _, m := range numbers {
				l.Root(m)
				for _, n := range numbers {
					l.Inclusion(m, n)
					l.Consistency(m, n)
					for _, count := range []int{0, 1, 2, 61, 62, 63, 64, 1000} {
						p := make([][32]byte, count)
						rfclog.CheckInclusion(entry[:min(len(entry), 1)], m, n, p, [32]byte{})
						rfclog.CheckConsistency(m, n, p, [32]byte{}, [32]byte{})
					}
				}
			}
			l.Len()
			l.Add(entry)
			rfclog.EntrySum(entry)
		}
	}
}

// Each call of layers 17 and 18 ends without a panic at nil and empty lists, long ones, and numbers far out (P1).
func TestNoCallOfLinksPanics(t *testing.T) {
	numbers := []int{math.MinInt, math.MinInt + 1, -1, 0, 1, 255, 256, 1 << 32, math.MaxInt - 1, math.MaxInt}
	texts := [][]byte{nil, {}, {0}, make([]byte, 64), make([]byte, 65535), make([]byte, 65536)}
	sum := [32]byte{1, 31: 0xff}
	for _, text := range texts {
		chain.First(text)
		for _, n := range numbers {
			bound, open := commit.Make(sum, [32]byte{}, n, text)
			commit.Check(bound, open, sum, n, text)
			commit.Check(sum, sum, sum, n, text)
			commit.Texts(sum, bound, n, text)
			chain.Text(text, n, sum, open)
			chain.Next(text, n, sum, open)
			for _, count := range []int{0, 1, 3} {
				roots := make([][32]byte, count)
				chain.Check(text, n, sum, roots, roots)
				chain.Check(text, n, sum, nil, roots)
				chain.Check(text, n, sum, roots, nil)
				chain.Check(text, n, sum, roots, [][32]byte{chain.Next(text, n, [32]byte{}, sum)})
			}
		}
	}
}

// directories: none, one that New didn't make, new ones, and one that has no room for anything more.
func directories() []*direct.Directory {
	least, _ := direct.New([]byte{0}, direct.Keys{}, direct.Limits{Labels: 1, Pending: 1, Epochs: 1})
	most, _ := direct.New(make([]byte, api.MaxId), direct.Keys{}, direct.Limits{Labels: api.MaxLabels, Pending: api.MaxPending, Epochs: api.MaxEpochs})
	full, _ := direct.New([]byte{1}, direct.Keys{}, direct.Limits{Labels: 1, Pending: 1, Epochs: 1})
	full.Put([]byte{1}, nil)
	full.Seal()
	full.Put([]byte{1}, nil)
	return []*direct.Directory{nil, {}, least, most, full}
}

// Each call of layer 19 ends without a panic at nil objects, zero values, nil and empty lists, long ones, and numbers far out (P1).
func TestNoCallOfDirectoriesPanics(t *testing.T) {
	numbers := []int{math.MinInt, math.MinInt + 1, -2, -1, 0, 1, 2, 33, 1 << 32, math.MaxInt - 1, math.MaxInt}
	texts := [][]byte{nil, {}, {1}, make([]byte, 17), make([]byte, 33), make([]byte, 65), make([]byte, 65536)}
	for _, n := range numbers {
		for _, text := range texts {
			direct.New(text, direct.Keys{}, direct.Limits{})
			direct.New(text, direct.Keys{}, direct.Limits{Labels: n, Pending: n, Epochs: n})
			direct.New(text, direct.Keys{}, direct.Limits{Labels: n, Pending: 1, Epochs: 1})
			direct.New(text, direct.Keys{}, direct.Limits{Labels: 1, Pending: n, Epochs: 1})
			direct.New(text, direct.Keys{}, direct.Limits{Labels: 1, Pending: 1, Epochs: n})
		}
	}
	for _, d := range directories() {
		for range 3 {
			for _, n := range numbers {
				d.Made(n)
				for _, m := range numbers {
					d.Audit(n, m)
				}
				for _, text := range texts {
					d.Lookup(text, n)
				}
			}
			for _, text := range texts {
				d.History(text)
				for _, value := range texts {
					d.Put(text, value)
				}
			}
			d.Id()
			d.Keys()
			d.Limits()
			d.Waits()
			d.Public()
			d.Epoch()
			d.Waiting()
			d.Labels()
			d.Seal()
		}
	}
}

// Each call of layers 20 and 21 ends without a panic at nil objects, zero values, parts that are none, and numbers far out (P1).
func TestNoCallOfBeatsPanics(t *testing.T) {
	numbers := []int{math.MinInt, math.MinInt + 1, -1, 0, 1, 2, 7, 8, 9, 256, 257, 1000, 1001, 1 << 32, math.MaxInt - 1, math.MaxInt}
	texts := []string{"", "\x00", "a", string(make([]byte, 65536))}
	caches, schedules := []*cache.Cache{nil, {}}, []*cadence.Schedule{nil, {}}
	for _, n := range numbers {
		s, _ := cadence.New(n)
		schedules = append(schedules, s)
		for _, m := range numbers {
			c, _ := cache.New(n, m)
			caches = append(caches, c)
		}
	}
	for _, c := range caches {
		for _, n := range numbers {
			for _, text := range texts {
				c.Get(n, text)
				c.Put(n, text, text)
				c.Get(n, text)
				c.Put(n, text, "")
			}
			c.Names(n)
			c.Hits(n)
			c.Drop(n)
			c.Names(n)
		}
	}
	for _, s := range schedules {
		for i, text := range texts {
			for j, n := range numbers {
				id := text + string(rune(j))
				for _, m := range numbers {
					s.Add(id, n, m)
				}
				s.Add(id, numbers[(i+j)%3+4], n)
				s.Age(id)
				s.Next(id)
				s.Tick()
				s.Next(id)
				s.Now()
				s.Ids()
				if j%2 == 0 {
					s.Remove(id)
					s.Remove(id)
				}
			}
		}
	}
}

// Each call of layer 22 ends without a panic at nil objects, zero values, ids and places that are none, and numbers far out (P1).
func TestNoCallOfTablesPanics(t *testing.T) {
	numbers := []int{math.MinInt, -1, 0, 1, 2, 3, 4, 8, 9, 1 << 32, math.MaxInt}
	texts := [][]byte{nil, {}, {0}, {1}, make([]byte, 16), make([]byte, 17), make([]byte, 65536)}
	tables := []*tenant.Table{nil, {}}
	for _, n := range numbers {
		table, _ := tenant.New(n)
		tables = append(tables, table)
	}
	for _, table := range tables {
		for _, text := range texts {
			for _, d := range directories() {
				for _, n := range numbers {
					table.Create(text, direct.Keys{}, direct.Limits{Labels: n, Pending: n, Epochs: n})
					for _, m := range numbers {
						table.Settle(text, n, m, d)
					}
					table.Ids(n)
				}
				for range 2 {
					table.Import(text, d)
					table.Get(text, false)
					table.Hold(text)
					table.Get(text, true)
					table.Place(text)
					table.State(text)
					table.Room()
				}
				table.Free(text)
			}
			table.Delete(text)
			table.Delete(text)
			table.Create(append(text, 5), direct.Keys{}, direct.Limits{Labels: 1, Pending: 1, Epochs: 1})
		}
	}
}

// supers: none, one that New didn't make, and others without a super-epoch, with some, and with members alone.
func supers() []*super.Super {
	some := super.New([32]byte{1})
	for range 3 {
		some.Seal([]super.Member{{}, {Gone: true}})
	}
	of, _ := super.Restore([32]byte{1}, nil, []super.Member{{}})
	return []*super.Super{nil, {}, super.New([32]byte{}), some, of}
}

// Each call of layer 23 ends without a panic at nil objects, zero values, nil and empty lists, and numbers far out (P1).
func TestNoCallOfSupersPanics(t *testing.T) {
	numbers := []int{math.MinInt, math.MinInt + 1, -1, 0, 1, 2, 3, 4, 1 << 32, math.MaxInt - 1, math.MaxInt}
	texts := [][]byte{nil, {}, {0}, make([]byte, 17), make([]byte, 65536)}
	lists := [][]super.Member{nil, {}, {{}, {}}}
	for _, text := range texts {
		super.Key(text)
		super.KeyText(text)
		for _, n := range numbers {
			for _, m := range []super.Member{{Id: text, Epoch: n}, {Id: text, Epoch: n, Gone: true}} {
				super.Value(m)
				super.ValueText(m)
				lists = append(lists, []super.Member{m})
			}
		}
	}
	for _, s := range supers() {
		for _, l := range lists {
			s.Seal(l)
		}
		for _, n := range numbers {
			s.At(n)
			s.LogRoot(n)
			for _, m := range numbers {
				s.Inclusion(n, m)
				s.Consistency(n, m)
			}
		}
		for _, text := range texts {
			s.Prove(text)
		}
		s.Last()
		s.Epochs()
		s.Public()
	}
	for _, n := range numbers {
		super.Text(n, [32]byte{})
		for _, public := range [][32]byte{{}, {2}, sign.Spread([32]byte{}).Public} {
			super.Check(public, super.Signed{Epoch: n})
		}
		super.Restore([32]byte{}, []super.Signed{{Epoch: n}, {}}, lists[len(lists)-1])
		super.Restore([32]byte{}, make([]super.Signed, 1), nil)
	}
}

// Each call of layers 24 and 25 ends without a panic at nil objects, zero values, lists and texts that are none, numbers far out, and all bytes (P1).
func TestNoCallOfBytesPanics(t *testing.T) {
	numbers := []int{math.MinInt, -1, 0, 1, 2, 6, 8, 12, 13, 255, 256, 1 << 32, math.MaxInt}
	texts := [][]byte{nil, {}, {1}, make([]byte, 17), make([]byte, 65), make([]byte, 65536)}
	read := func(b []byte) {
		wire.Asked(b)
		wire.Told(b)
		wire.Seen(b)
		bundle.Unpack(b)
	}
	for _, text := range texts {
		read(text)
		for _, n := range numbers {
			wire.Ask(wire.Request{Kind: n, Id: text, Label: text, Value: text, Bundle: text})
			wire.Ask(wire.Request{Kind: n, Period: n, From: n, To: n, Limits: direct.Limits{Labels: n}})
			for _, e := range numbers {
				sums := make([][32]byte, 300)
				f := direct.Found{Epoch: n, Value: text, Proof: proof.Proof{Sums: sums}}
				wire.Tell(wire.Answer{Kind: n, Err: api.Errno(e), Found: f, Later: sums, Entries: make([]direct.Entry, 2000)})
				wire.Tell(wire.Answer{Kind: n, Epoch: e, Marks: make([]direct.Mark, 2000), Member: super.Member{Id: text}, Bundle: text})
				wire.Saw(f)
				wire.Saw(direct.Found{Version: e, Value: text})
				for _, d := range directories() {
					bundle.Pack(bundle.Parcel{Directory: d, Period: n, Age: e})
				}
				// A kind, no error, and a count or a number, of one place or another.
				for size := range 20 {
					b := append([]byte{byte(n), byte(e)}, make([]byte, size)...)
					for at := range 8 {
						b = append(b, byte(uint64(e)>>(56-8*at)))
					}
					read(b)
				}
			}
		}
	}
	for _, d := range directories() {
		b, _ := bundle.Pack(bundle.Parcel{Directory: d, Period: 1})
		for n := range b {
			read(b[:n])
			read(append(bytes.Clone(b[:n]), bytes.Repeat([]byte{255}, len(b)-n)...))
			read(append(bytes.Clone(b[:n]), bytes.Repeat([]byte{127}, len(b)-n)...))
		}
	}
}

// hosts: none, one that New didn't make, a new one, one at the last tick, some of tenants, and of odd parts.
func hosts() []*host.Host {
	least, _ := host.New([32]byte{}, 1, 0)
	last, _ := host.New([32]byte{1}, 8, math.MaxInt)
	some, _ := host.New([32]byte{2}, 5, 0)
	for i, id := range []string{"a", "b", "c"} {
		some.Serve(wire.Request{Kind: wire.Create, Id: []byte(id), Limits: direct.Limits{Labels: 1, Pending: 1, Epochs: 1}, Period: 1})
		some.Serve(wire.Request{Kind: i + 1, Id: []byte(id)})
		some.Serve(wire.Request{Kind: wire.Put, Id: []byte(id), Label: []byte{1}})
		some.Tick()
	}
	some.Serve(wire.Request{Kind: wire.Delete, Id: []byte("c")})
	// A directory that New didn't make has an id of no bytes, and room for nothing.
	parts := some.Parts()
	parts.Tenants = append(parts.Tenants, host.Part{Id: []byte("d"), State: tenant.Live, Place: 4, Period: 1, Directory: &direct.Directory{}, Public: true})
	odd, _ := host.Rebuild([32]byte{2}, 5, parts)
	return []*host.Host{nil, {}, least, last, some, odd}
}

// Each call of layer 26 ends without a panic at nil objects, zero values, requests and parts of all kinds, and numbers far out (P1).
func TestNoCallOfHostsPanics(t *testing.T) {
	numbers := []int{math.MinInt, -1, 0, 1, 2, 8, 9, 1001, 1 << 32, math.MaxInt}
	texts := [][]byte{nil, {}, {1}, []byte("a"), []byte("d"), make([]byte, 17), make([]byte, 33), make([]byte, 65536)}
	for i, h := range hosts() {
		if h == nil && i > 0 {
			t.Errorf("host %d couldn't be made", i)
		}
		for range 2 {
			for kind := -1; kind <= 14; kind++ {
				for i, text := range texts {
					for _, n := range numbers {
						h.Serve(wire.Request{Kind: kind, Id: text, Label: text, Value: text, Bundle: text, From: n, To: n, Period: n})
						h.Serve(wire.Request{Kind: kind, Id: text, Label: texts[(i+1)%len(texts)], From: -1, To: n, Period: 1, Limits: direct.Limits{Labels: n, Pending: 1, Epochs: 1}})
					}
					b, _ := wire.Ask(wire.Request{Kind: kind, Id: text, Label: []byte{1}})
					h.Do(b)
					h.Do(text)
					h.Place(text)
				}
			}
			h.Tick()
			h.State()
			h.Public()
			host.Rebuild([32]byte{2}, 5, h.Parts())
		}
	}
	for _, n := range numbers {
		for _, m := range numbers {
			host.New([32]byte{}, n, m)
			host.Rebuild([32]byte{}, n, host.Parts{Now: m, Signed: make([]super.Signed, 1), Members: make([]super.Member, 2)})
			for _, d := range directories() {
				host.Rebuild([32]byte{}, 8, host.Parts{Tenants: []host.Part{{}, {Id: []byte{1}, State: n, Place: m, Period: m, Age: n, Directory: d}}})
				host.Rebuild([32]byte{}, 8, host.Parts{Tenants: []host.Part{{Id: []byte{1}, State: n, Place: m, Period: m, Age: n, Directory: d}}})
			}
		}
	}
}

// The same calls tell the same, whatever was called between (rule 5).
func TestAnswersHangOnArgumentsAlone(t *testing.T) {
	tell := func() (all [][]byte) {
		a, b, c := sha2.Sum([]byte("a")), sha5.Sum([]byte("a")), hmac.Of([]byte("k"), []byte("a"))
		var w codec.Writer
		w.Text([]byte("a"))
		d, _ := w.Bytes()
		root, _ := field.Root(field.Small(4), field.Small(5))
		e, f := field.Bytes(root), scalar.Bytes(scalar.Mul(scalar.Of(b[:]), scalar.Of(a[:])))
		g := edwards.Base().Times(a).Encode()
		h, i := sign.Spread(a), sign.Sign(a, d)
		j, _ := vrf.Prove(a, d)
		k, _ := vrf.Check(h.Public, d, j)
		l, _ := disk.New(4)
		m, _, _ := journal.Open(l, 1, 3)
		m.Append(e[:])
		x, _ := extent.New(l, 0, 2, 2)
		x.Zero(1)
		n, _ := l.Read(1)
		all = append(all, a[:], b[:], c[:], d, e[:], f[:], g[:], h.Public[:], i[:], j[:], k[:], n[:])
		all = append(all, []byte{byte(m.Room()), byte(l.Writes()), byte(x.Of(1))})
		all = append(all, tellOfTrees(a, e, f)...)
		all = append(all, tellOfDirectory(a, e)...)
		all = append(all, tellOfMany(a, e)...)
		all = append(all, tellOfHost(a, e)...)
		all = append(all, tellOfStore(a, e)...)
		all = append(all, tellOfClients(a, e)...)
		return append(all, tellOfScripts(a, e)...)
	}
	first := tell()
	TestNoCallPanics(t)
	TestNoCallOfNumbersPanics(t)
	TestNoCallOfSignaturesPanics(t)
	TestNoCallOfBlocksPanics(t)
	TestNoCallOfTreesPanics(t)
	TestNoCallOfLogsPanics(t)
	TestNoCallOfLinksPanics(t)
	TestNoCallOfDirectoriesPanics(t)
	TestNoCallOfBeatsPanics(t)
	TestNoCallOfTablesPanics(t)
	TestNoCallOfSupersPanics(t)
	TestNoCallOfBytesPanics(t)
	TestNoCallOfHostsPanics(t)
	TestNoCallOfStoresPanics(t)
	TestNoCallOfClientsPanics(t)
	TestNoCallOfScriptsPanics(t)
	for i, b := range tell() {
		if string(b) != string(first[i]) {
			t.Errorf("answer %d is another one", i)
		}
	}
}

// tellOfTrees: what comes of these sums as keys, values and entries.
func tellOfTrees(sums ...[32]byte) [][]byte {
	var made *tree.Tree
	var log rfclog.Log
	for _, sum := range sums {
		made = made.Put(tree.Leaf{Key: sum, Value: sums[0]})
		log.Add(sum[:])
	}
	k := path.Key(sums[0]).Flip(255)
	p := proof.Prove(made, k)
	var w codec.Writer
	proof.Put(&w, p)
	b, _ := w.Bytes()
	top, _ := log.Root(len(sums))
	way, _ := log.Inclusion(1, len(sums))
	root := made.Root()
	return append(proof.Texts(k, p), root[:], b, top[:], way[0][:], []byte{byte(k.Common(sums[1]))})
}

// tellOfDirectory: what comes of these sums as keys, labels and values, and as links.
func tellOfDirectory(sums ...[32]byte) [][]byte {
	d, _ := direct.New(sums[0][:api.MaxId], direct.Keys{Vrf: sums[0], Bind: sums[1]}, direct.Limits{Labels: 2, Pending: 2, Epochs: 2})
	d.Put(sums[0][:], sums[1][:])
	d.Put(sums[1][:], nil)
	d.Seal()
	found, _ := d.Lookup(sums[0][:], -1)
	marks, _ := d.Audit(0, 1)
	bound, _ := commit.Make(sums[0], sums[1], 1, sums[0][:])
	link := chain.Next(sums[0][:], 2, sums[1], marks[1].Link)
	all := append(commit.Texts(found.Open, found.Index, found.Version, found.Value), proof.Texts(found.Index, found.Proof)...)
	return append(all, found.Vrf[:], marks[0].Link[:], marks[1].Root[:], bound[:], link[:])
}

// tellOfMany: what comes of these sums as ids, names and links.
func tellOfMany(sums ...[32]byte) (all [][]byte) {
	c, _ := cache.New(1, 2)
	beat, _ := cadence.New(0)
	table, _ := tenant.New(3)
	var members []super.Member
	for i, sum := range sums {
		id := sum[:api.MaxId]
		c.Put(0, string(id), string(sum[:]))
		beat.Add(string(id), 1, i)
		table.Create(id, direct.Keys{Vrf: sum}, direct.Limits{Labels: 1, Pending: 1, Epochs: 1})
		members = append(members, super.Member{Id: id, Epoch: i, Link: sum})
	}
	table.Hold(sums[0][:api.MaxId])
	s := super.New(sums[0])
	for i := range members {
		s.Seal(members[i:])
	}
	last, _ := s.Last()
	way, _ := s.Inclusion(0, 2)
	due, _ := beat.Tick()
	told := append(append(c.Names(0), due...), table.Ids(tenant.Live)...)
	for _, text := range told {
		all = append(all, []byte(text))
	}
	return append(all, last.Root[:], last.Sig[:], way[0][:])
}

// tellOfHost: what comes of these sums as keys, ids, labels and values, by bytes.
func tellOfHost(sums ...[32]byte) (all [][]byte) {
	h, _ := host.New(sums[0], 3, 0)
	for _, kind := range []int{wire.Create, wire.Put, 0, wire.Lookup, wire.Lookup, wire.History, wire.Export, wire.Hold, wire.Standing, wire.Growth} {
		for _, sum := range sums {
			r := wire.Request{Kind: kind, Id: sum[:api.MaxId], Keys: direct.Keys{Vrf: sum}, Limits: direct.Limits{Labels: 1, Pending: 1, Epochs: 1}}
			r.Period, r.Label, r.Value, r.From, r.To = 1, sum[:], sum[:], 1, 2
			b, _ := wire.Ask(r)
			all = append(all, h.Do(b))
		}
		if kind == 0 {
			h.Tick()
		}
	}
	return append(all, h.State())
}
