package config_test

import (
	"math"
	"math/big"
	"math/rand"
	"regexp"
	"slices"
	"strconv"
	"strings"
	"testing"
	"unicode/utf8"

	"mempool/api"
	"mempool/config"
)

// row is a row of the chapter's table, written out.
type row struct {
	key, least, greatest, standard string
	get                            func(c api.Config) *big.Int
	set                            func(c *api.Config, n *big.Int)
}

// rows is the chapter's table.
func rows() []row {
	return []row{
		integer("max-txs", "1", "512", "100", func(c *api.Config) *int { return &c.MaxTxs }),
		integer("max-bytes", "1", "1048576", "65536", func(c *api.Config) *int { return &c.MaxBytes }),
		integer("max-tx-bytes", "1", "4096", "1024", func(c *api.Config) *int { return &c.MaxTxBytes }),
		integer("cache-size", "0", "1024", "200", func(c *api.Config) *int { return &c.CacheSize }),
		integer("ttl-blocks", "0", "1073741824", "0", func(c *api.Config) *int { return &c.TTLBlocks }),
		integer("ttl-time", "0", "1073741824", "0", func(c *api.Config) *int { return &c.TTLTime }),
		{"keep-invalid", "0", "1", "0", keepInvalid, func(c *api.Config, n *big.Int) { c.KeepInvalid = n.Sign() != 0 }},
		integer("block-bytes", "1", "1048576", "32768", func(c *api.Config) *int { return &c.BlockBytes }),
		integer("block-gas", "-1", "1125899906842624", "-1", func(c *api.Config) *int { return &c.BlockGas }),
		{"price", "0", "18446744073709551615", "1", price, func(c *api.Config, n *big.Int) { c.Price = n.Uint64() }},
		integer("self", "0", "7", "0", func(c *api.Config) *int { return &c.Self }),
		integer("nodes", "1", "8", "1", func(c *api.Config) *int { return &c.Nodes }),
	}
}

// integer is a row with a field of type int.
func integer(key, least, greatest, standard string, field func(c *api.Config) *int) row {
	get := func(c api.Config) *big.Int { return big.NewInt(int64(*field(&c))) }
	set := func(c *api.Config, n *big.Int) { *field(c) = int(n.Int64()) }
	return row{key, least, greatest, standard, get, set}
}

func keepInvalid(c api.Config) *big.Int {
	if c.KeepInvalid {
		return big.NewInt(1)
	}
	return big.NewInt(0)
}

func price(c api.Config) *big.Int {
	return new(big.Int).SetUint64(c.Price)
}

// whole returns the number with this text.
func whole(text string) *big.Int {
	n, ok := new(big.Int).SetString(text, 10)
	if !ok {
		panic(text)
	}
	return n
}

// beside returns the text of the number that is greater than that of text by so many.
func beside(text string, by int64) string {
	return new(big.Int).Add(whole(text), big.NewInt(by)).String()
}

// standard returns the configuration with the default values.
func standard() api.Config {
	return api.Config{MaxTxs: 100, MaxBytes: 65536, MaxTxBytes: 1024, CacheSize: 200, TTLBlocks: 0, TTLTime: 0, KeepInvalid: false, BlockBytes: 32768, BlockGas: -1, Price: 1, Self: 0, Nodes: 1}
}

// with returns the standard configuration with changes.
func with(change func(c *api.Config)) api.Config {
	c := standard()
	change(&c)
	return c
}

// within reports whether n is from the least to the greatest value of r.
func (r row) within(n *big.Int) bool {
	return n.Cmp(whole(r.least)) >= 0 && n.Cmp(whole(r.greatest)) <= 0
}

// judge says what the chapter says of Validate.
func judge(c api.Config) api.Errno {
	for _, r := range rows() {
		if !r.within(r.get(c)) {
			return api.ErrArgument
		}
	}
	if c.Self >= c.Nodes {
		return api.ErrArgument
	}
	return api.OK
}

// format says what the chapter says of Format of a valid configuration.
func format(c api.Config) string {
	text := ""
	for _, r := range rows() {
		text += r.key + " " + r.get(c).String() + "\n"
	}
	return text
}

// spaces lists the spaces of the chapter.
func spaces() []string {
	return []string{"\t", " ", "\xc2\xa0", "\xe2\x80\x83", "\xe3\x80\x80"}
}

const (
	space = `[\x{9}\x{20}\x{a0}\x{2003}\x{3000}]`
	word  = `([^\x{9}\x{20}\x{a0}\x{2003}\x{3000}#]+)`
)

// lineForm is the form of every line: maybe a key and a value, and maybe a comment.
var lineForm = regexp.MustCompile(`\A` + space + `*(?:` + word + space + `+` + word + space + `*)?(?:#(?s:.*))?\z`)

var valueForm = regexp.MustCompile(`\A(?:0|[1-9][0-9]*)\z`)

// parse says what the chapter says of Parse.
func parse(text string) (api.Config, int, api.Errno) {
	if len(text) > 4096 {
		return api.Config{}, 0, api.ErrLimit
	}
	if !utf8.ValidString(text) {
		return api.Config{}, 0, api.ErrEncoding
	}
	c, table := standard(), rows()
	var earlier []string
	for i, line := range strings.Split(text, "\n") {
		m := lineForm.FindStringSubmatch(line)
		if m != nil && m[1] == "" {
			continue
		}
		at := -1
		if m != nil {
			at = slices.IndexFunc(table, func(r row) bool { return r.key == m[1] })
		}
		switch {
		case m == nil:
			return api.Config{}, i + 1, api.ErrSyntax
		case at < 0:
			return api.Config{}, i + 1, api.ErrName
		case slices.Contains(earlier, m[1]):
			return api.Config{}, i + 1, api.ErrDuplicate
		case !valueForm.MatchString(m[2]) && !(m[1] == "block-gas" && m[2] == "-1"):
			return api.Config{}, i + 1, api.ErrSyntax
		case !table[at].within(whole(m[2])):
			return api.Config{}, i + 1, api.ErrArgument
		}
		earlier = append(earlier, m[1])
		table[at].set(&c, whole(m[2]))
	}
	if c.Self >= c.Nodes {
		return api.Config{}, 0, api.ErrArgument
	}
	return c, 0, api.OK
}

// checkParse checks that Parse of text returns want, the line and e.
func checkParse(t *testing.T, text string, want api.Config, line int, e api.Errno) {
	t.Helper()
	if c, l, f := config.Parse(text); c != want || l != line || f != e {
		t.Errorf("Parse(%.200q) = %v, %d, %d; want %v, %d, %d", text, c, l, f, want, line, e)
	}
}

// checkError checks that Parse of text returns no configuration, the line and e.
func checkError(t *testing.T, text string, line int, e api.Errno) {
	t.Helper()
	checkParse(t, text, api.Config{}, line, e)
}

// checkDefined checks Parse of text against parse, and returns the error.
func checkDefined(t *testing.T, text string) api.Errno {
	t.Helper()
	want, line, e := parse(text)
	checkParse(t, text, want, line, e)
	return e
}

// checkConfig checks Validate and Format of c, and Parse of its text; e is what makes c invalid, or OK.
func checkConfig(t *testing.T, c api.Config, e api.Errno) {
	t.Helper()
	if f := config.Validate(c); f != e {
		t.Errorf("Validate(%v) = %d; want %d", c, f, e)
	}
	want := ""
	if e == api.OK {
		want = format(c)
	}
	text, f := config.Format(c)
	if text != want || f != e {
		t.Errorf("Format(%v) = %q, %d; want %q, %d", c, text, f, want, e)
	}
	if e == api.OK {
		checkParse(t, text, c, 0, api.OK)
	}
}

// The examples of the chapter.
func TestExamples(t *testing.T) {
	checkParse(t, "max-txs 5 # few", with(func(c *api.Config) { c.MaxTxs = 5 }), 0, api.OK)
	checkParse(t, "\u3000max-txs 5", with(func(c *api.Config) { c.MaxTxs = 5 }), 0, api.OK)
	checkParse(t, "\u3000", standard(), 0, api.OK)
	checkError(t, "price 01", 1, api.ErrSyntax)
}

// P19.1: Default.
func TestDefault(t *testing.T) {
	for range 2 {
		c := config.Default()
		if c != standard() {
			t.Errorf("Default = %v; want %v", c, standard())
		}
		for _, r := range rows() {
			if r.get(c).String() != r.standard {
				t.Errorf("%s of Default is %v; want %s", r.key, r.get(c), r.standard)
			}
		}
		checkConfig(t, c, api.OK)
	}
}

// P19.1: each field around its least and its greatest value, and at the ends of its type.
func TestValidateFields(t *testing.T) {
	values := []string{"-9223372036854775808", "-9223372036854775807", "-4294967297", "-4294967296", "-4294967295", "-3", "-2", "-1", "0", "1", "2", "3", "4294967295", "4294967296", "4294967297", "9223372036854775806", "9223372036854775807"}
	for _, r := range rows() {
		if r.key == "keep-invalid" || r.key == "price" {
			continue
		}
		near := values
		for by := int64(-2); by <= 2; by++ {
			near = append(near, beside(r.least, by), beside(r.greatest, by))
		}
		for _, v := range near {
			// With the most nodes, every Self of the table is less than they are.
			c := with(func(c *api.Config) { c.Nodes = 8 })
			r.set(&c, whole(v))
			want := api.ErrArgument
			if r.within(whole(v)) {
				want = api.OK
			}
			checkConfig(t, c, want)
		}
	}
	for _, n := range []uint64{0, 1, 2, 1<<63 - 1, 1 << 63, 1<<63 + 1, math.MaxUint64 - 1, math.MaxUint64} {
		checkConfig(t, with(func(c *api.Config) { c.Price = n }), api.OK)
	}
	for _, keep := range []bool{false, true} {
		checkConfig(t, with(func(c *api.Config) { c.KeepInvalid = keep }), api.OK)
	}
	checkConfig(t, api.Config{}, api.ErrArgument)
}

// P19.1: Self has to be less than Nodes.
func TestValidateSelf(t *testing.T) {
	for self := -3; self < 12; self++ {
		for nodes := -3; nodes < 12; nodes++ {
			want := api.ErrArgument
			if 0 <= self && self < nodes && nodes <= 8 {
				want = api.OK
			}
			checkConfig(t, with(func(c *api.Config) { c.Self, c.Nodes = self, nodes }), want)
		}
	}
}

// P19.1 and P19.2: a field that is not valid, whatever the others are.
func TestValidateOthers(t *testing.T) {
	for _, greatest := range []bool{false, true} {
		var c api.Config
		for _, r := range rows() {
			if r.set(&c, whole(r.least)); greatest {
				r.set(&c, whole(r.greatest))
			}
		}
		checkConfig(t, c, api.OK)
		for _, r := range rows() {
			for _, v := range []string{beside(r.least, -1), beside(r.greatest, 1)} {
				if r.key == "keep-invalid" || r.key == "price" {
					continue
				}
				d := c
				r.set(&d, whole(v))
				checkConfig(t, d, api.ErrArgument)
			}
		}
	}
}

// P19.2: texts, written out.
func TestFormat(t *testing.T) {
	for _, x := range []struct {
		c    api.Config
		text string
	}{
		{standard(), "max-txs 100\nmax-bytes 65536\nmax-tx-bytes 1024\ncache-size 200\nttl-blocks 0\nttl-time 0\nkeep-invalid 0\nblock-bytes 32768\nblock-gas -1\nprice 1\nself 0\nnodes 1\n"},
		{
			api.Config{MaxTxs: 1, MaxBytes: 2, MaxTxBytes: 3, CacheSize: 4, TTLBlocks: 5, TTLTime: 6, KeepInvalid: true, BlockBytes: 8, BlockGas: 9, Price: 10, Self: 5, Nodes: 7},
			"max-txs 1\nmax-bytes 2\nmax-tx-bytes 3\ncache-size 4\nttl-blocks 5\nttl-time 6\nkeep-invalid 1\nblock-bytes 8\nblock-gas 9\nprice 10\nself 5\nnodes 7\n",
		},
		{
			api.Config{MaxTxs: 512, MaxBytes: 1048576, MaxTxBytes: 4096, CacheSize: 1024, TTLBlocks: 1073741824, TTLTime: 1073741824, KeepInvalid: true, BlockBytes: 1048576, BlockGas: 1125899906842624, Price: 18446744073709551615, Self: 7, Nodes: 8},
			"max-txs 512\nmax-bytes 1048576\nmax-tx-bytes 4096\ncache-size 1024\nttl-blocks 1073741824\nttl-time 1073741824\nkeep-invalid 1\nblock-bytes 1048576\nblock-gas 1125899906842624\nprice 18446744073709551615\nself 7\nnodes 8\n",
		},
		{
			api.Config{MaxTxs: 1, MaxBytes: 1, MaxTxBytes: 1, BlockBytes: 1, Nodes: 1},
			"max-txs 1\nmax-bytes 1\nmax-tx-bytes 1\ncache-size 0\nttl-blocks 0\nttl-time 0\nkeep-invalid 0\nblock-bytes 1\nblock-gas 0\nprice 0\nself 0\nnodes 1\n",
		},
	} {
		if text, e := config.Format(x.c); text != x.text || e != api.OK {
			t.Errorf("Format(%v) = %q, %d; want %q", x.c, text, e, x.text)
		}
		checkConfig(t, x.c, api.OK)
	}
}

// P19.3: a value alone, in all decimal forms and others.
func TestParseValues(t *testing.T) {
	wrong := []string{"-0", "-00", "-01", "-2", "-10", "--1", "+0", "+1", "00", "01", "007", "0100", "1.", "1.0", "1e1", "0x1", "0b1", "1_0", "1,0", "x", "-", "+", "1-", "1x", "x1", "-1-", "-1x", "true", "false", "'1'", "\uff11", "\u0661", "1\u0661", "1\r", "\r1", "1\x00", "\x00", "1\v", "1\u2002", "1\ufeff", "\ufffd", "/", ":", "1/", "1:", "/1", ":1"}
	for _, r := range rows() {
		for _, v := range wrong {
			checkError(t, r.key+" "+v, 1, api.ErrSyntax)
		}
		if r.key == "block-gas" {
			checkParse(t, "block-gas -1", standard(), 0, api.OK)
		} else {
			checkError(t, r.key+" -1", 1, api.ErrSyntax)
		}
		for _, v := range []string{"18446744073709551616", "18446744073709551617", "18446744073709552640", "36893488147419103232", "99999999999999999999", "100000000000000000000000000000000", "1" + strings.Repeat("0", 4000)} {
			checkError(t, r.key+" "+v, 1, api.ErrArgument)
		}
		for _, v := range []string{"0", "1", "2", "7", "8", "9", "10", "512", "4096", "1048576", "1073741824", "1125899906842624", "4294967296", "4294967297", "9223372036854775807", "9223372036854775808", "18446744073709551614", "18446744073709551615"} {
			checkDefined(t, r.key+" "+v)
			checkDefined(t, "nodes 8\n"+r.key+" "+v)
		}
	}
}

// P19.3: each key with the values around its least and its greatest one.
func TestParseRange(t *testing.T) {
	for _, r := range rows() {
		for _, v := range []string{r.least, beside(r.least, 1), r.standard, beside(r.greatest, -1), r.greatest} {
			c := standard()
			r.set(&c, whole(v))
			text := r.key + " " + v
			if r.key == "self" {
				c.Nodes = 8
				text = "nodes 8\n" + text
			}
			checkParse(t, text, c, 0, api.OK)
			checkParse(t, "\n"+text+"\n", c, 0, api.OK)
		}
		for _, v := range []string{beside(r.greatest, 1), beside(r.greatest, 2), beside(r.greatest, 1000)} {
			checkError(t, r.key+" "+v, 1, api.ErrArgument)
			checkError(t, "\n\n"+r.key+" "+v+"\n", 3, api.ErrArgument)
		}
		if r.least == "1" {
			checkError(t, r.key+" 0", 1, api.ErrArgument)
		}
	}
}

// P19.3: words that are not keys, some of them nearly.
func TestParseNames(t *testing.T) {
	wrong := []string{"x", "1", "0", "-1", "max", "max-", "-", "MaxTxs", "maxtxs", "max_txs", "max\u2010txs", "max-txs:", "max-txs=", "\ufeffmax-txs", "\ufffd", "\u2002max-txs", "\vmax-txs", "\rmax-txs", "max-txs\r", "max-txs\x00", "\x00", "block", "gas", "ttl", "selfnodes", "=", "//", "\"self\"", "\u017felf", "\u212aeep-invalid"}
	for _, r := range rows() {
		wrong = append(wrong, r.key+"x", "x"+r.key, r.key[1:], r.key[:len(r.key)-1], r.key+r.key, strings.ToUpper(r.key), strings.ToUpper(r.key[:1])+r.key[1:], r.key+"-", r.key+"s")
	}
	for _, name := range wrong {
		for _, value := range []string{"0", "1", "01", "x", "-1", "18446744073709551616"} {
			checkError(t, name+" "+value, 1, api.ErrName)
			checkError(t, "self 0\n\n"+name+" "+value+" # comment", 3, api.ErrName)
		}
		checkError(t, name, 1, api.ErrSyntax)
		checkError(t, name+" 1 1", 1, api.ErrSyntax)
	}
}

// P19.3: a line with one word, with three, or with more.
func TestParseWords(t *testing.T) {
	for _, s := range spaces() {
		for _, line := range []string{"nodes", "2", "x", "nodes2", "nodes=2", "nodes\r2", "nodes\v2", "nodes\f2", "nodes\u00852", "nodes\u16802", "nodes\u20022", "nodes\u20042", "nodes\u20282", "nodes\u202f2", "nodes\u205f2", "nodes\u200b2", "nodes\ufeff2", "nodes\x002", "nodes" + s + "2" + s + "3", "nodes" + s + "2" + s + "x", "nodes" + s + s + "2" + s + s + "2", "nodes" + s + "=" + s + "2", "a" + s + "b" + s + "c" + s + "d", "nodes" + s + "-" + s + "1", "nodes" + s + "2" + s + "\r", "nodes" + s + "1" + s + "000"} {
			for _, comment := range []string{"", "#", "# 2", "#" + s + "2", s + "# 2", s + s + "#"} {
				checkError(t, line+comment, 1, api.ErrSyntax)
				checkError(t, s+line+s+comment, 1, api.ErrSyntax)
				checkError(t, "\n"+comment+"\n"+line+s+comment+"\n\n", 3, api.ErrSyntax)
			}
		}
	}
}

// P19.3: which runes are spaces, which one begins a comment, and which one ends a line.
func TestParseRunes(t *testing.T) {
	two := with(func(c *api.Config) { c.MaxTxs = 2 })
	for r := rune(0); r <= utf8.MaxRune; r++ {
		if r > 0x3100 && r%97 != 0 && r < utf8.MaxRune-99 && !(0xd7f0 < r && r < 0xe010) && !(0xfe00 < r && r < 0x10010) {
			continue
		}
		s := string(r)
		switch {
		case 0xd800 <= r && r < 0xe000: // string gives another rune for these
			continue
		case slices.Contains(spaces(), s):
			checkParse(t, "max-txs"+s+"2", two, 0, api.OK)
			checkParse(t, s+"max-txs 2", two, 0, api.OK)
			checkParse(t, "max-txs 2"+s, two, 0, api.OK)
			checkParse(t, s, standard(), 0, api.OK)
		case s == "#":
			checkError(t, "max-txs#2", 1, api.ErrSyntax)
			checkParse(t, "#max-txs 2", standard(), 0, api.OK)
			checkParse(t, "max-txs 2#", two, 0, api.OK)
			checkParse(t, "#", standard(), 0, api.OK)
		case s == "\n":
			checkError(t, "max-txs\n2", 1, api.ErrSyntax)
			checkParse(t, "\nmax-txs 2", two, 0, api.OK)
			checkParse(t, "max-txs 2\n", two, 0, api.OK)
			checkParse(t, "\n", standard(), 0, api.OK)
		default:
			checkError(t, s, 1, api.ErrSyntax)
			checkError(t, "max-txs"+s+"2", 1, api.ErrSyntax)
			checkError(t, s+"max-txs 2", 1, api.ErrName)
			checkError(t, "max-txs\u00a0"+s+"\u20032", 1, api.ErrSyntax)
			checkParse(t, "max-txs 2#"+s+"#"+s, two, 0, api.OK)
			if s < "0" || s > "9" {
				checkError(t, "max-txs "+s+"2", 1, api.ErrSyntax)
				checkError(t, "max-txs 2"+s, 1, api.ErrSyntax)
			}
		}
	}
}

// P19.3: the values of some keys in all forms with few digits, and signs and zeros before them.
func TestParseDigits(t *testing.T) {
	for n := range 1000 {
		s := strconv.Itoa(n)
		checkParse(t, "cache-size "+s, with(func(c *api.Config) { c.CacheSize = n }), 0, api.OK)
		checkParse(t, "price "+s, with(func(c *api.Config) { c.Price = uint64(n) }), 0, api.OK)
		checkError(t, "cache-size 0"+s, 1, api.ErrSyntax)
		checkError(t, "cache-size +"+s, 1, api.ErrSyntax)
		if n != 1 {
			checkError(t, "block-gas -"+s, 1, api.ErrSyntax)
		}
		checkError(t, "cache-size -"+s, 1, api.ErrSyntax)
	}
}

// P19.3: bytes that are not UTF-8, everywhere, before all errors of lines.
func TestParseEncoding(t *testing.T) {
	wrong := []string{"\x80", "\xbf", "\xc0", "\xc1", "\xc2", "\xa0", "\xe3", "\xe3\x80", "\xe2\x80", "\xed\xa0\x80", "\xed\xbf\xbf", "\xc0\x80", "\xc0\xa0", "\xe0\x80\xa0", "\xf0\x80\x80\xa0", "\xf0\x9f\x98", "\xf4\x90\x80\x80", "\xf5", "\xf8\x88\x80\x80\x80", "\xfe", "\xff", "\xef\xbf", "\xef\xbf\xbd\xff", "\xff\xef\xbf\xbd"}
	texts := []string{"", "# ", "max-txs 5", "max-txs 5\nmax-txs 5", "x", "x 1", "price 01", "self 3", "nodes 9", "\n\n\n", "self 1\nnodes 2\n# \u00e9\u3000", "\ufffd", "#\ufffd"}
	for _, w := range wrong {
		for _, text := range texts {
			for i := range len(text) + 1 {
				if utf8.ValidString(text[:i]) {
					checkError(t, text[:i]+w+text[i:], 0, api.ErrEncoding)
				}
			}
		}
		checkError(t, strings.Repeat("#", 4096-len(w))+w, 0, api.ErrEncoding)
		checkError(t, strings.Repeat("#", 4097-len(w))+w, 0, api.ErrLimit)
		checkError(t, w+strings.Repeat("x", 4097-len(w)), 0, api.ErrLimit)
	}
	// The rune that a range also gives for wrong bytes is a rune like others.
	checkParse(t, "#\ufffd\nnodes 2", with(func(c *api.Config) { c.Nodes = 2 }), 0, api.OK)
	checkError(t, "\ufffd 1", 1, api.ErrName)
	checkError(t, "nodes \ufffd", 1, api.ErrSyntax)
}

// P19.3: texts of about MaxText bytes; bytes are counted, not runes.
func TestParseLimit(t *testing.T) {
	two := with(func(c *api.Config) { c.Nodes = 2 })
	for _, fill := range []string{"#", " ", "\n", "\t", "#\n"} {
		checkParse(t, strings.Repeat(fill, 4096/len(fill)), standard(), 0, api.OK)
		checkError(t, strings.Repeat(fill, 4096/len(fill))+" ", 0, api.ErrLimit)
		rest := strings.Repeat(fill, (4096-len("nodes 2\n"))/len(fill))
		checkParse(t, "nodes 2\n"+rest, two, 0, api.OK)
		checkError(t, "nodes 2\n"+rest+"\n", 0, api.ErrLimit)
		checkError(t, rest+"\nnodes x\n", 0, api.ErrLimit)
	}
	for n := 4090; n < 4103; n++ {
		text := "#" + strings.Repeat("\u3000", (n-1)/3) + strings.Repeat("y", (n-1)%3)
		e := checkDefined(t, text)
		if want := n > 4096; len(text) != n || (e == api.ErrLimit) != want {
			t.Errorf("with %d bytes: %d", len(text), e)
		}
		checkDefined(t, strings.Repeat("x", n))
		checkDefined(t, strings.Repeat("\n", n-1)+"x")
	}
	checkError(t, strings.Repeat("\n", 4095)+"x", 4096, api.ErrSyntax)
	checkError(t, strings.Repeat("\xff", 4097), 0, api.ErrLimit)
	checkError(t, strings.Repeat("x", 1<<20), 0, api.ErrLimit)
	checkParse(t, "price "+strings.Repeat(" ", 4089)+"1", standard(), 0, api.OK)
	checkError(t, "price 0"+strings.Repeat("1", 4089), 1, api.ErrSyntax)
	checkError(t, "price "+strings.Repeat("1", 4090), 1, api.ErrArgument)
}

// P19.3: a key that an earlier line has, with the same value, with another one, and with none.
func TestParseDuplicates(t *testing.T) {
	for i, r := range rows() {
		first := "nodes 8\n" + r.key + " " + r.standard
		if r.key == "nodes" {
			first = "\nnodes 8"
		}
		for _, v := range []string{r.standard, r.least, r.greatest, beside(r.greatest, 1), "0", "-1", "00", "01", "x", "\ufffd", "1e400", "18446744073709551616"} {
			checkError(t, first+"\n"+r.key+" "+v, 3, api.ErrDuplicate)
			checkError(t, first+"#\n\n \u3000\n#"+r.key+"\n\t"+r.key+"\u2003"+v+" # again\nx", 6, api.ErrDuplicate)
		}
		checkError(t, first+"\n"+r.key, 3, api.ErrSyntax)
		checkError(t, first+"\n"+r.key+" 1 1", 3, api.ErrSyntax)
		// Comments have no keys.
		checkDefined(t, first+"\n#"+r.key+" "+r.least+"\n# "+r.key+" "+r.least)
		checkDefined(t, "#"+r.key+" "+r.least+"\n"+first)
		all := strings.SplitAfter(format(standard()), "\n")[:12]
		checkError(t, strings.Join(all, "")+all[i], 13, api.ErrDuplicate)
		checkError(t, strings.Join(append(all[i:i+1:i+1], all...), ""), i+2, api.ErrDuplicate)
	}
}

// P19.3: of several errors, the first line that has one, and of this line the first error.
func TestParseFirst(t *testing.T) {
	wrong := []struct {
		line string
		e    api.Errno
	}{
		{"max-txs", api.ErrSyntax}, {"x", api.ErrSyntax}, {"max-txs 5 5", api.ErrSyntax}, {"price 1 x", api.ErrSyntax},
		{"x 1", api.ErrName}, {"x 01", api.ErrName}, {"x -1", api.ErrName},
		{"price 1", api.ErrDuplicate}, {"price 01", api.ErrDuplicate}, {"price 18446744073709551616", api.ErrDuplicate},
		{"max-txs 01", api.ErrSyntax}, {"max-txs -1", api.ErrSyntax}, {"nodes 099", api.ErrSyntax}, {"max-txs 00", api.ErrSyntax},
		{"max-txs 0", api.ErrArgument}, {"nodes 9", api.ErrArgument}, {"self 8", api.ErrArgument}, {"max-txs 513", api.ErrArgument},
	}
	for _, a := range wrong {
		for _, b := range wrong {
			// With Self not less than Nodes, which is only found if all lines are valid.
			for _, head := range []string{"price 3\n\n", "price 3\nself 0\n", "self 7\nprice 3\n", "#\nprice\u00a03#\n"} {
				want := a.e
				if strings.HasPrefix(a.line, "self 8") && strings.Contains(head, "self") {
					want = api.ErrDuplicate
				}
				checkError(t, head+a.line+"\n"+b.line, 3, want)
				checkError(t, head+a.line+"\nself 5\n"+b.line+"\n", 3, want)
				checkError(t, head+"# "+b.line+"\ncache-size 7\n"+a.line+"\nnodes 1\n", 5, want)
			}
		}
	}
}

// P19.3: Self and Nodes, in both orders, and with one of them at its default value.
func TestParseSelf(t *testing.T) {
	for self := range 8 {
		for nodes := 1; nodes < 9; nodes++ {
			a, b := "self "+strconv.Itoa(self), "nodes "+strconv.Itoa(nodes)
			for _, text := range []string{a + "\n" + b, b + "\n" + a, a + "\nmax-txs 1\n" + b + "\n", "\n" + b + "\n\n" + a + "#\nmax-txs 1"} {
				want := with(func(c *api.Config) { c.Self, c.Nodes = self, nodes })
				if strings.Contains(text, "max-txs") {
					want.MaxTxs = 1
				}
				if self < nodes {
					checkParse(t, text, want, 0, api.OK)
				} else {
					checkError(t, text, 0, api.ErrArgument)
				}
			}
		}
		if self > 0 {
			checkError(t, "self "+strconv.Itoa(self), 0, api.ErrArgument)
		}
	}
}

// join returns all sequences of n pieces, as texts.
func join(pieces []string, n int) []string {
	l := []string{""}
	for range n {
		var longer []string
		for _, s := range l {
			for _, p := range pieces {
				longer = append(longer, s+p)
			}
		}
		l = longer
	}
	return l
}

// P19.3: all short sequences of some pieces.
func TestParseByDefinition(t *testing.T) {
	count := map[api.Errno]int{}
	for n := range 6 {
		for _, s := range join([]string{"self", "nodes", " ", "\u3000", "\n", "#", "0", "2", "\r", "\xe3"}, n) {
			count[checkDefined(t, s)]++
		}
	}
	for n := range 8 {
		for _, s := range join([]string{"block-gas ", "price ", "-1", "0", "\n"}, n) {
			count[checkDefined(t, s)]++
		}
	}
	for _, e := range []api.Errno{api.OK, api.ErrEncoding, api.ErrSyntax, api.ErrName, api.ErrDuplicate, api.ErrArgument} {
		if count[e] < 10 {
			t.Errorf("%d only %d times", e, count[e])
		}
	}
}

// some returns a valid configuration.
func some(r *rand.Rand) api.Config {
	var c api.Config
	for _, x := range rows() {
		least := whole(x.least)
		size := new(big.Int).Sub(whole(x.greatest), least)
		n := new(big.Int).Rand(r, size.Add(size, big.NewInt(1)))
		// Small values as often as large ones.
		n.Rsh(n, uint(r.Intn(size.BitLen()+1)))
		x.set(&c, n.Add(n, least))
	}
	c.Self = r.Intn(c.Nodes)
	return c
}

// blank returns spaces, at least so many.
func blank(r *rand.Rand, least int) string {
	s := ""
	for range least + r.Intn(3) {
		s += spaces()[r.Intn(5)]
	}
	return s
}

// remark returns spaces, and maybe a comment.
func remark(r *rand.Rand) string {
	return blank(r, 0) + []string{"", "", "#", "# x", "#\u3000nodes 3", "##", "#\r\u00e9", "# \U0010ffff#"}[r.Intn(8)]
}

// P19.4: Parse(Format(c)) is c, and spaces, comments and the order of the lines change nothing.
func TestMany(t *testing.T) {
	const changed = " \n#019-sx\xa0\x80\xe3"
	r := rand.New(rand.NewSource(19))
	for range 5000 {
		c := some(r)
		checkConfig(t, c, api.OK)
		lines := strings.Split(strings.TrimSuffix(format(c), "\n"), "\n")
		r.Shuffle(len(lines), func(i, j int) { lines[i], lines[j] = lines[j], lines[i] })
		var l []string
		for _, s := range lines {
			for r.Intn(4) == 0 {
				l = append(l, remark(r))
			}
			l = append(l, blank(r, 0)+strings.Replace(s, " ", blank(r, 1), 1)+remark(r))
		}
		text := strings.Join(append(l, remark(r)), "\n")
		checkParse(t, text, c, 0, api.OK)
		// Some keys are left out, and have their default values.
		checkDefined(t, strings.Join(l[r.Intn(len(l)):], "\n"))
		// Some bytes are changed.
		b := []byte(text)
		for range 3 {
			b[r.Intn(len(b))] = changed[r.Intn(len(changed))]
			checkDefined(t, string(b))
		}
	}
}

// P19.3: keys that do not occur have their default values.
func TestParseDefaults(t *testing.T) {
	checkParse(t, "", standard(), 0, api.OK)
	table := rows()
	for mask := range 1 << len(table) {
		want, text := standard(), ""
		for i, r := range table {
			if mask>>i&1 == 1 {
				text += r.key + " " + r.greatest + "\n"
				r.set(&want, whole(r.greatest))
			}
		}
		if want.Self >= want.Nodes {
			checkError(t, text, 0, api.ErrArgument)
		} else {
			checkParse(t, text, want, 0, api.OK)
		}
	}
}

// R3: a result does not depend on earlier calls, nor on what was done with earlier results.
func TestAgain(t *testing.T) {
	for range 3 {
		c := config.Default()
		c.MaxTxs, c.Nodes = 7, 8
		checkParse(t, "", standard(), 0, api.OK)
		checkParse(t, "nodes 2\nkeep-invalid 1", with(func(c *api.Config) { c.Nodes, c.KeepInvalid = 2, true }), 0, api.OK)
		checkError(t, "nodes 2\nkeep-invalid 1\nnodes 2", 3, api.ErrDuplicate)
		checkConfig(t, api.Config{}, api.ErrArgument)
		if config.Default() != standard() {
			t.Errorf("Default = %v", config.Default())
		}
	}
}
