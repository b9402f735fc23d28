package scan

import (
	"bytes"
	"math"
	"slices"
	"strings"
	"testing"

	"corrector/api"
)

// names are what tokens are called in these tests, by their kinds.
var names = []string{"", "break", "indent", "blank", "comment", "dash", "colon", "comma", "openseq", "openmap", "endseq", "endmap", "anchor", "alias", "tag", "plain", "single", "double", "head", "text", "start", "end", "bad"}

// shown are tokens by their names, each with its bytes.
func shown(b string, l []api.Token) string {
	var out []string
	for _, t := range l {
		out = append(out, names[t.Kind]+"<"+b[t.From:t.To]+">")
	}
	return strings.Join(out, " ")
}

type row struct{ b, want string }

func checkRows(t *testing.T, l []row) {
	t.Helper()
	for _, x := range l {
		got := Tokens([]byte(x.b))
		if s := shown(x.b, got); s != x.want {
			t.Errorf("P601: Tokens of %q:\n%q, not\n%q", x.b, s, x.want)
		}
		if !Whole(got, len(x.b)) {
			t.Errorf("P602: Tokens of %q: %v", x.b, got)
		}
	}
}

func TestMarks(t *testing.T) {
	checkRows(t, []row{
		{"---", "start<--->"},
		{"...", "end<...>"},
		{"--- ", "start<---> blank< >"},
		{"...\t", "end<...> blank<\t>"},
		{"---\n...\r\n---\r...", "start<---> break<\n> end<...> break<\r\n> start<---> break<\r> end<...>"},
		{"--- # c", "start<---> blank< > comment<# c>"},
		{"... a", "end<...> blank< > plain<a>"},
		{"----", "plain<---->"},
		{"....", "plain<....>"},
		{"---a", "plain<---a>"},
		{"---#", "plain<---#>"},
		{"---:", "plain<---> colon<:>"},
		{"---\xff", "plain<---> bad<\xff>"},
		{"--", "plain<-->"},
		{"..", "plain<..>"},
		{" ---", "indent< > plain<--->"},
		{"\t...", "blank<\t> plain<...>"},
		{"a ---", "plain<a --->"},
		{"--- ---", "start<---> blank< > plain<--->"},
		{"-.-", "plain<-.->"},
		// No bracket is open behind one: a comma is no token then, a dash is one.
		{"[a\n---\n- b, c", "openseq<[> plain<a> break<\n> start<---> break<\n> dash<-> blank< > plain<b, c>"},
		{"{[\n...\na]b", "openmap<{> openseq<[> break<\n> end<...> break<\n> plain<a]b>"},
		{"[\n----\n,", "openseq<[> break<\n> plain<----> break<\n> comma<,>"},
	})
}

func TestBreaksAndBlanks(t *testing.T) {
	checkRows(t, []row{
		{"", ""},
		{"\n", "break<\n>"},
		{"\r", "break<\r>"},
		{"\r\n", "break<\r\n>"},
		{"\n\r", "break<\n> break<\r>"},
		{"\r\r\n\n", "break<\r> break<\r\n> break<\n>"},
		{" ", "indent< >"},
		{"\t", "blank<\t>"},
		{"  \t ", "indent<  > blank<\t >"},
		{"\t  ", "blank<\t  >"},
		{"   \n \n\t", "indent<   > break<\n> indent< > break<\n> blank<\t>"},
		{" a  \t\n", "indent< > plain<a> blank<  \t> break<\n>"},
		{"\r  a", "break<\r> indent<  > plain<a>"},
		{"a\u00a0\u2028b\u0085", "plain<a\u00a0\u2028b\u0085>"}, // neither blanks nor breaks here
		{"\va\f", "plain<\va\f>"},
	})
}

func TestComments(t *testing.T) {
	checkRows(t, []row{
		{"#", "comment<#>"},
		{"# a: [b] 'c' \t\n#", "comment<# a: [b] 'c' \t> break<\n> comment<#>"},
		{"#\xff\xc3\xa9\r", "comment<#\xff\xc3\xa9> break<\r>"},
		{"  # c", "indent<  > comment<# c>"},
		{"\t# c", "blank<\t> comment<# c>"},
		{" \t#", "indent< > blank<\t> comment<#>"},
		{"a # c\nb\t# d", "plain<a> blank< > comment<# c> break<\n> plain<b> blank<\t> comment<# d>"},
		{"a# c", "plain<a# c>"},
		{"a#  #", "plain<a#> blank<  > comment<#>"},
		{"'a'# c", "single<'a'> plain<# c>"},
		{"'a' # c", "single<'a'> blank< > comment<# c>"},
		{"\"a\"#", "double<\"a\"> plain<#>"},
		{"[#a]", "openseq<[> plain<#a> endseq<]>"},
		{"[ #a]", "openseq<[> blank< > comment<#a]>"},
		{"&a#", "anchor<&a> plain<#>"},
		{"\xff#", "bad<\xff> plain<#>"},
		{"- # c", "dash<-> blank< > comment<# c>"},
		{"a: # c", "plain<a> colon<:> blank< > comment<# c>"},
		{"---\n# c", "start<---> break<\n> comment<# c>"},
	})
}

func TestBrackets(t *testing.T) {
	checkRows(t, []row{
		{"[]{}", "openseq<[> endseq<]> openmap<{> endmap<}>"},
		{"[{]}", "openseq<[> openmap<{> endseq<]> endmap<}>"},
		{"[,,]", "openseq<[> comma<,> comma<,> endseq<]>"},
		{"{a,b}", "openmap<{> plain<a> comma<,> plain<b> endmap<}>"},
		{",", "plain<,>"},
		{"a, b", "plain<a, b>"},
		{"a]b}c[d{", "plain<a]b}c[d{>"},
		{"], }", "endseq<]> plain<, }>"},
		{"]}[,", "endseq<]> endmap<}> openseq<[> comma<,>"}, // never fewer open than none
		{"[}a,", "openseq<[> endmap<}> plain<a,>"},          // either kind ends either
		{"[[]a,b]c,d", "openseq<[> openseq<[> endseq<]> plain<a> comma<,> plain<b> endseq<]> plain<c,d>"},
		{"[a\n b,\n]\nc,", "openseq<[> plain<a> break<\n> indent< > plain<b> comma<,> break<\n> endseq<]> break<\n> plain<c,>"},
		{"a: [b", "plain<a> colon<:> blank< > openseq<[> plain<b>"},
		{"'[', \"{\"", "single<'['> plain<, \"{\">"},
		{"# [\n,", "comment<# [> break<\n> plain<,>"},
	})
}

func TestDashes(t *testing.T) {
	checkRows(t, []row{
		{"- a: 1", "dash<-> blank< > plain<a> colon<:> blank< > plain<1>"}, // the chapter's example
		{"-", "dash<->"},
		{"-\t-\n-\r-\r\n", "dash<-> blank<\t> dash<-> break<\n> dash<-> break<\r> dash<-> break<\r\n>"},
		{"  - \t- -", "indent<  > dash<-> blank< \t> dash<-> blank< > dash<->"},
		{"\t- a", "blank<\t> dash<-> blank< > plain<a>"},
		{"-a", "plain<-a>"},
		{"--", "plain<-->"},
		{"-#", "plain<-#>"},
		{"-\xff", "plain<-> bad<\xff>"},
		{"- -1", "dash<-> blank< > plain<-1>"},
		{"a - b", "plain<a - b>"},
		{"a: - b", "plain<a> colon<:> blank< > plain<- b>"},
		{"&a - b", "anchor<&a> blank< > plain<- b>"},
		{"!t -", "tag<!t> blank< > plain<->"},
		{"'a' - b", "single<'a'> blank< > plain<- b>"},
		{"] - b", "endseq<]> blank< > plain<- b>"},
		{"\xff - b", "bad<\xff> blank< > plain<- b>"},
		{"[- a\n- b]", "openseq<[> plain<- a> break<\n> plain<- b> endseq<]>"},
		{"[a\n]\n- b", "openseq<[> plain<a> break<\n> endseq<]> break<\n> dash<-> blank< > plain<b>"},
		{"--- - - a", "start<---> blank< > dash<-> blank< > dash<-> blank< > plain<a>"},
		{"---\t-", "start<---> blank<\t> dash<->"},
		{"... - a", "end<...> blank< > plain<- a>"},
		{"--- a - b", "start<---> blank< > plain<a - b>"},
		{"a\n- b", "plain<a> break<\n> dash<-> blank< > plain<b>"},
	})
}

func TestColons(t *testing.T) {
	checkRows(t, []row{
		{":", "colon<:>"},
		{": : :", "colon<:> blank< > colon<:> blank< > colon<:>"},
		{"a:", "plain<a> colon<:>"},
		{"a:\nb:\rc:\r\nd:\te", "plain<a> colon<:> break<\n> plain<b> colon<:> break<\r> plain<c> colon<:> break<\r\n> plain<d> colon<:> blank<\t> plain<e>"},
		{"a : b", "plain<a> blank< > colon<:> blank< > plain<b>"},
		{"a:b :c", "plain<a:b :c>"},
		{"a::", "plain<a:> colon<:>"},
		{"::", "plain<:> colon<:>"},
		{":::", "plain<::> colon<:>"},
		{":a", "plain<:a>"},
		{"a:[b]", "plain<a:[b]>"},
		{"a:,", "plain<a:,>"},
		{"a:\xff", "plain<a:> bad<\xff>"},
		{"a:#", "plain<a:#>"},
		{"'a':b", "single<'a'> plain<:b>"},
		{"'a': b", "single<'a'> colon<:> blank< > plain<b>"},
		{"*a: b", "alias<*a> colon<:> blank< > plain<b>"},
		{"[a:b]", "openseq<[> plain<a:b> endseq<]>"},
		{"[a:]", "openseq<[> plain<a> colon<:> endseq<]>"},
		{"{a:,b:{c:[d:}", "openmap<{> plain<a> colon<:> comma<,> plain<b> colon<:> openmap<{> plain<c> colon<:> openseq<[> plain<d> colon<:> endmap<}>"},
		{"[::]", "openseq<[> plain<:> colon<:> endseq<]>"},
		{"[a: b]:", "openseq<[> plain<a> colon<:> blank< > plain<b> endseq<]> colon<:>"},
		{"[]:,", "openseq<[> endseq<]> plain<:,>"},
	})
}

func TestNamed(t *testing.T) {
	checkRows(t, []row{
		{"&a *b !c", "anchor<&a> blank< > alias<*b> blank< > tag<!c>"},
		{"&azAZ09_-.", "anchor<&azAZ09_-> plain<.>"},
		{"*a*b&c", "alias<*a> alias<*b> anchor<&c>"},
		{"&-", "anchor<&->"},
		{"&", "plain<&>"},
		{"*", "plain<*>"},
		{"& a", "plain<& a>"},
		{"*: a", "plain<*> colon<:> blank< > plain<a>"},
		{"&&a", "plain<&&a>"},
		{"*\xc3\xa9", "plain<*\xc3\xa9>"},
		{"*\xff", "plain<*> bad<\xff>"},
		{"&\n", "plain<&> break<\n>"},
		{"!", "tag<!>"},
		{"!!", "tag<!!>"},
		{"!!int 5", "tag<!!int> blank< > plain<5>"},
		{"!a!b-c_9!,", "tag<!a!b-c_9!> plain<,>"},
		{"!&a", "tag<!> anchor<&a>"},
		{"!'a'", "tag<!> single<'a'>"},
		{"!\xc3\xa9", "tag<!> plain<\xc3\xa9>"},
		{"&a!b", "anchor<&a> tag<!b>"},
		{"a &b *c !d", "plain<a &b *c !d>"},
		{"[&a,*b,!c]", "openseq<[> anchor<&a> comma<,> alias<*b> comma<,> tag<!c> endseq<]>"},
		{"[&,*]", "openseq<[> plain<&> comma<,> plain<*> endseq<]>"},
		{"&a:", "anchor<&a> colon<:>"},
		{"&a:b", "anchor<&a> plain<:b>"},
	})
}

func TestSingleQuoted(t *testing.T) {
	checkRows(t, []row{
		{"'a'", "single<'a'>"},
		{"''", "single<''>"},
		{"'''", "single<'''>"}, // two together, and no end
		{"''''", "single<''''>"},
		{"'''''", "single<'''''>"},
		{"'''a'b", "single<'''a'> plain<b>"},
		{"'a''b' c", "single<'a''b'> blank< > plain<c>"},
		{"'a' 'b'", "single<'a'> blank< > single<'b'>"},
		{"'a'b'", "single<'a'> plain<b'>"},
		{"'a\\' b", "single<'a\\'> blank< > plain<b>"},
		{"'a: #b, [\"'", "single<'a: #b, [\"'>"},
		{"'", "single<'>"},
		{"'a ", "single<'a >"},
		{"'a\nb'", "single<'a> break<\n> plain<b'>"},
		{"'a'\n'", "single<'a'> break<\n> single<'>"},
		{"'a'\r'b'", "single<'a'> break<\r> single<'b'>"},
		{"''\n''", "single<''> break<\n> single<''>"},
		{"'\xff\xc3\xa9'\xff", "single<'\xff\xc3\xa9'> bad<\xff>"},
		{"a 'b'", "plain<a 'b'>"},
		{"['a','b", "openseq<[> single<'a'> comma<,> single<'b>"},
	})
}

func TestDoubleQuoted(t *testing.T) {
	checkRows(t, []row{
		{`"a"`, `double<"a">`},
		{`""`, `double<"">`},
		{`"""`, `double<""> double<">`},
		{`"a\"b" c`, `double<"a\"b"> blank< > plain<c>`},
		{`"a\\" b`, `double<"a\\"> blank< > plain<b>`},
		{`"a\\\" b"`, `double<"a\\\" b">`},
		{`"\q" b`, `double<"\q"> blank< > plain<b>`},
		{`"a'b: #c, ["`, `double<"a'b: #c, [">`},
		{`"`, `double<">`},
		{`"a\`, `double<"a\>`},
		{`"a\"`, `double<"a\">`},
		{"\"a\\\nb\"", "double<\"a\\> break<\n> plain<b\">"}, // never past a break
		{"\"a\\\r\nb", "double<\"a\\> break<\r\n> plain<b>"},
		{"\"a \rb", "double<\"a > break<\r> plain<b>"},
		{"\"\\\xc3\xa9\\\xff\" \"\xff", "double<\"\\\xc3\xa9\\\xff\"> blank< > double<\"\xff>"},
		{`a "b"`, `plain<a "b">`},
		{`["a","b`, `openseq<[> double<"a"> comma<,> double<"b>`},
	})
}

func TestHeads(t *testing.T) {
	checkRows(t, []row{
		{"|", "head<|>"},
		{">", "head<>>"},
		{"|+\n", "head<|+> break<\n>"},
		{">-\r", "head<>-> break<\r>"},
		{"> \t", "head<>> blank< \t>"},
		{"|- # c", "head<|-> blank< > comment<# c>"},
		{"|\t#", "head<|> blank<\t> comment<#>"},
		{"a: | \n", "plain<a> colon<:> blank< > head<|> blank< > break<\n>"},
		{"- >+", "dash<-> blank< > head<>+>"},
		{"&a !b |", "anchor<&a> blank< > tag<!b> blank< > head<|>"},
		{"--- >", "start<---> blank< > head<>>"},
		{"'a' |", "single<'a'> blank< > head<|>"},
		{"\xff|", "bad<\xff> head<|>"},
		{"[]|", "openseq<[> endseq<]> head<|>"},
		{"| x", "plain<| x>"},
		{"|x", "plain<|x>"},
		{"|#", "plain<|#>"},
		{"|-#", "plain<|-#>"},
		{"|+-", "plain<|+->"},
		{"| -", "plain<| ->"},
		{"|| ", "plain<||> blank< >"},
		{"|1", "plain<|1>"},
		{"|\xff", "plain<|> bad<\xff>"},
		{"|: a", "plain<|> colon<:> blank< > plain<a>"},
		{"> 'a'", "plain<> 'a'>"},
		{"[|\n a", "openseq<[> plain<|> break<\n> indent< > plain<a>"},
		{"[\n>-\n b", "openseq<[> break<\n> plain<>-> break<\n> indent< > plain<b>"},
		{"a |\n b", "plain<a |> break<\n> indent< > plain<b>"},
	})
}

func TestBlockTexts(t *testing.T) {
	checkRows(t, []row{
		{"a: |\n b\n\n  c: 'd\nd", "plain<a> colon<:> blank< > head<|> break<\n> text< b\n> text<\n> text<  c: 'd\n> plain<d>"},
		{"a: |\r\n b\r c\r\nd", "plain<a> colon<:> blank< > head<|> break<\r\n> text< b\r> text< c\r\n> plain<d>"},
		{"a: |+ # c\n b", "plain<a> colon<:> blank< > head<|+> blank< > comment<# c> break<\n> text< b>"},
		{"a: |\nb", "plain<a> colon<:> blank< > head<|> break<\n> plain<b>"},
		// Rows of blanks belong to it, however few these are, with a break or at the end.
		{"  a: |\n\n \n\t\n    b\n\t \nc", "indent<  > plain<a> colon<:> blank< > head<|> break<\n> text<\n> text< \n> text<\t\n> text<    b\n> text<\t \n> plain<c>"},
		{"  a: |\n ", "indent<  > plain<a> colon<:> blank< > head<|> break<\n> text< >"},
		{"  a: |\n\t", "indent<  > plain<a> colon<:> blank< > head<|> break<\n> text<\t>"},
		// More spaces than the base; tabs are none.
		{"  a: |\n   b\n  c", "indent<  > plain<a> colon<:> blank< > head<|> break<\n> text<   b\n> indent<  > plain<c>"},
		{"a: |\n\tb", "plain<a> colon<:> blank< > head<|> break<\n> blank<\t> plain<b>"},
		{" a: |\n \tb", "indent< > plain<a> colon<:> blank< > head<|> break<\n> indent< > blank<\t> plain<b>"},
		{"a: |\n \tb", "plain<a> colon<:> blank< > head<|> break<\n> text< \tb>"},
		{"\ta: |\n b\n  c", "blank<\t> plain<a> colon<:> blank< > head<|> break<\n> indent< > plain<b> break<\n> indent<  > plain<c>"}, // a tab is a column too
		{"- - a: |\n b\n", "dash<-> blank< > dash<-> blank< > plain<a> colon<:> blank< > head<|> break<\n> text< b\n>"},
		{"- |\n b\n- c", "dash<-> blank< > head<|> break<\n> text< b\n> dash<-> blank< > plain<c>"},
		{" &a |\n  b\n c", "indent< > anchor<&a> blank< > head<|> break<\n> text<  b\n> indent< > plain<c>"},
		{"\xc3\xa9: |\n b", "plain<\xc3\xa9> colon<:> blank< > head<|> break<\n> text< b>"},
		{" \xff|\n b\n  c", "indent< > bad<\xff> head<|> break<\n> indent< > plain<b> break<\n> indent<  > plain<c>"},
		// Where the THead itself is the first token that counts: one less than its column.
		{"|\na\n\xff\n# c\n- d", "head<|> break<\n> text<a\n> text<\xff\n> text<# c\n> text<- d>"},
		{"  |\n  a\n b", "indent<  > head<|> break<\n> text<  a\n> indent< > plain<b>"},
		{" \t|\n  a\n b", "indent< > blank<\t> head<|> break<\n> text<  a\n> indent< > plain<b>"},
		{" >-\n a\nb", "indent< > head<>-> break<\n> text< a\n> plain<b>"},
		// A mark ends it, a bracket in it opens nothing, and a head in it is none.
		{"|\na\n---\nb", "head<|> break<\n> text<a\n> start<---> break<\n> plain<b>"},
		{"|\n...", "head<|> break<\n> end<...>"},
		{"|\n...a\n ---\n--- c", "head<|> break<\n> text<...a\n> text< ---\n> start<---> blank< > plain<c>"},
		{"--- |\n a\nb", "start<---> blank< > head<|> break<\n> text< a\n> plain<b>"},
		{"a: |\n [\nb, c", "plain<a> colon<:> blank< > head<|> break<\n> text< [\n> plain<b, c>"},
		{"a: |\n |\n b\nc: |\n d", "plain<a> colon<:> blank< > head<|> break<\n> text< |\n> text< b\n> plain<c> colon<:> blank< > head<|> break<\n> text< d>"},
		// What ended is not taken up again.
		{"a: |\n b\nc\n d", "plain<a> colon<:> blank< > head<|> break<\n> text< b\n> plain<c> break<\n> indent< > plain<d>"},
		{"a: |\nb\n\n c", "plain<a> colon<:> blank< > head<|> break<\n> plain<b> break<\n> break<\n> indent< > plain<c>"},
		// A row that begins within brackets has its base, too.
		{"[a\n b]: |\n  c\n d", "openseq<[> plain<a> break<\n> indent< > plain<b> endseq<]> colon<:> blank< > head<|> break<\n> text<  c\n> indent< > plain<d>"},
	})
}

func TestBadBytesAndPlains(t *testing.T) {
	checkRows(t, []row{
		{"\xff", "bad<\xff>"},
		{"\xff\xfe", "bad<\xff> bad<\xfe>"},
		{"\xe2\x82", "bad<\xe2> bad<\x82>"},
		{"a\xe2\x82\nb", "plain<a> bad<\xe2> bad<\x82> break<\n> plain<b>"},
		{"\xed\xa0\x80", "bad<\xed> bad<\xa0> bad<\x80>"},
		{"\xf4\x90\x80\x80a", "bad<\xf4> bad<\x90> bad<\x80> bad<\x80> plain<a>"},
		{"\xef\xbf\xbd", "plain<\xef\xbf\xbd>"}, // a sign, though libraries tell a fault by it
		{"a\xef\xbf\xbd\xffb", "plain<a\xef\xbf\xbd> bad<\xff> plain<b>"},
		{"a \xff b", "plain<a> blank< > bad<\xff> blank< > plain<b>"},
		{"\xffa: \xff", "bad<\xff> plain<a> colon<:> blank< > bad<\xff>"},
		{"\x00\x7f", "plain<\x00\x7f>"},
		{"\xf0\x9f\x98\x80: \xc3\xa9 x \t", "plain<\xf0\x9f\x98\x80> colon<:> blank< > plain<\xc3\xa9 x> blank< \t>"},
		{"[\u015b\u017d\u012c]", "openseq<[> plain<\u015b\u017d\u012c> endseq<]>"}, // their last eight bits are those of Flow signs
		{"a  b\tc", "plain<a  b\tc>"},
		{"a b:", "plain<a b> colon<:>"},
		{"a  :", "plain<a> blank<  > colon<:>"},
		{"a\t#", "plain<a> blank<\t> comment<#>"},
		{"[a b ,c\t]", "openseq<[> plain<a b> blank< > comma<,> plain<c> blank<\t> endseq<]>"},
		{"\\", "plain<\\>"},
		{"@`%?", "plain<@`%?>"},
		{"\ufeffa", "plain<\ufeffa>"},
	})
}

func TestTextsOfEveryLength(t *testing.T) {
	if l := Tokens(make([]byte, api.MaxText+1)); len(l) != 0 {
		t.Errorf("P601: %d tokens of more than 2^14 bytes", len(l))
	}
	if l := Tokens(nil); len(l) != 0 {
		t.Errorf("P601: %v of no bytes", l)
	}
	for _, piece := range []string{"\x00", "a", "-", "- ", " ", "\t", "\n", "\r\n", "#", " #", "[", "]", "{,", ":", ": ", "&", "&a", "!", "'", "'a'", "\"", "\\", "\"\\", "|", "|\n", "| ", ">- #\n", "\xff", "\xff ", "\xc3", "a\xff", "a :", "...\n", "--- "} {
		for _, size := range []int{api.MaxText - 1, api.MaxText} {
			b := []byte(strings.Repeat(piece, size)[:size])
			got := Tokens(b)
			if !Whole(got, size) {
				t.Fatalf("P602: %d bytes of %q", size, piece)
			}
			if want := wanted(b); !slices.Equal(got, want) {
				t.Errorf("P601: %d bytes of %q", size, piece)
			}
		}
	}
	var deep strings.Builder
	for deep.Len() < api.MaxText-1 {
		deep.WriteByte('[')
	}
	deep.WriteByte(',')
	if l := Tokens([]byte(deep.String())); len(l) != api.MaxText || l[api.MaxText-1].Kind != api.TComma {
		t.Error("P601: a comma in very many brackets")
	}
}

// wholeByBytes is P601's Whole by the bytes that tokens have.
func wholeByBytes(l []api.Token, n int) bool {
	next := 0
	for _, k := range l {
		if k.From >= k.To {
			return false
		}
		for at := k.From; at < k.To; at++ {
			if at != next {
				return false
			}
			next++
		}
	}
	return next == n
}

func TestWhole(t *testing.T) {
	var all []api.Token
	for from := -1; from <= 3; from++ {
		for to := -1; to <= 3; to++ {
			all = append(all, api.Token{Kind: 1 + (5*from+to+6)%22, From: from, To: to})
		}
	}
	lists := [][]api.Token{nil, {}}
	for _, a := range all {
		lists = append(lists, []api.Token{a})
		for _, b := range all {
			lists = append(lists, []api.Token{a, b})
			for _, c := range all {
				lists = append(lists, []api.Token{a, b, c})
			}
		}
	}
	held := 0
	for _, l := range lists {
		for n := -2; n <= 4; n++ {
			want := wholeByBytes(l, n)
			if got := Whole(l, n); got != want {
				t.Fatalf("P601: Whole of %v, %d: %v", l, n, got)
			}
			if want {
				held++
			}
		}
	}
	// No token of 0, two times; one of 1 to 3; two of 2, 3 (one, two ways); three of 3.
	if held != 2+3+3+1 {
		t.Errorf("P601: %d lists are whole", held)
	}
}

func TestWholeOfWrongLists(t *testing.T) {
	far := []int{math.MinInt, -1, 0, 1, math.MaxInt}
	for _, from := range far {
		for _, to := range far {
			for _, n := range far {
				got := Whole([]api.Token{{Kind: -5, From: from, To: to}}, n)
				if want := from == 0 && to > 0 && to == n; got != want {
					t.Errorf("P601: Whole of one from %d to %d, of %d: %v", from, to, n, got)
				}
			}
		}
	}
	good := Tokens([]byte("- a: 'b'\n\xff"))
	for i := range good {
		less := slices.Delete(slices.Clone(good), i, i+1)
		twice := slices.Insert(slices.Clone(good), i, good[i])
		empty := slices.Insert(slices.Clone(good), i, api.Token{Kind: api.TBlank, From: good[i].From, To: good[i].From})
		for _, l := range [][]api.Token{less, twice, empty} {
			if Whole(l, 10) {
				t.Errorf("P601: %v is told to be whole", l)
			}
		}
	}
	if !Whole(good, 10) || Whole(good, 9) || Whole(good, 11) || Whole(good, 0) {
		t.Errorf("P601: Whole of %v", good)
	}
}

// P2 and P3: what is handed in stays, its spare room too, and is not looked at; an answer is nobody else's.
func TestNothingIsSharedOrChanged(t *testing.T) {
	room := []byte("a: |\n b\xc3\xa9---\n c'")
	kept := bytes.Clone(room)
	for size := range len(room) + 1 {
		b := room[:size]
		first := Tokens(b)
		if want := wanted(bytes.Clone(b)); !slices.Equal(first, want) {
			t.Fatalf("P601: Tokens of %q: %v, not %v", b, first, want)
		}
		was := slices.Clone(first)
		if !Whole(first, size) || !slices.Equal(first, was) {
			t.Fatalf("P2, P602: %v became %v", was, first)
		}
		spoil := first[:cap(first)]
		for i := range spoil {
			spoil[i] = api.Token{Kind: -7}
		}
		if again := Tokens(b); !slices.Equal(again, was) {
			t.Errorf("P2, P3: %v", again)
		}
		if !bytes.Equal(room, kept) {
			t.Fatalf("P2: %q became %q", kept, room)
		}
	}
	// What is changed behind a call is not changed in its answer.
	l := Tokens(room)
	was := slices.Clone(l)
	clear(room)
	if !slices.Equal(l, was) {
		t.Errorf("P2: %v", l)
	}
}
