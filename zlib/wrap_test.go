package zlib_test

import (
	"bytes"
	library "compress/zlib"
	"io"
	"strings"
	"testing"

	"vitrine/api"
	"vitrine/deflate"
	"vitrine/zlib"
)

// P6.1: the example of the document, and others of which each byte is worked out by hand.
func TestWrapExamples(t *testing.T) {
	for data, want := range map[string]string{
		"":           "\x78\x01\x03\x00\x00\x00\x00\x01",
		"a":          "\x78\x01\x4b\x04\x00\x00\x62\x00\x62",
		"aaaaaaaaaa": "\x78\x01\x4b\x84\x03\x00\x14\xe1\x03\xcb", // a = 1 + 10 * 97, b = 10 + 97 * 55
	} {
		if got := zlib.Wrap(data); got != want {
			t.Errorf("Wrap(%q) = %q, not %q", data, got, want)
		}
	}
	if got := zlib.Wrap("Wikipedia"); !strings.HasSuffix(got, "\x11\xe6\x03\x98") {
		t.Errorf("another sum: %q", got)
	}
}

// wantWrap holds Wrap to its parts, to Unwrap, and to what the library reads from it.
func wantWrap(t *testing.T, data string) {
	t.Helper()
	got := zlib.Wrap(data)
	if want := whole(deflate.Deflate(data), data); got != want {
		t.Errorf("Wrap(%.60q) = %.60q, not %.60q", data, got, want)
	}
	check(t, "what Wrap wrote", got, len(data), data, api.OK)
	r, err := library.NewReader(strings.NewReader(got))
	if err != nil {
		t.Fatalf("Wrap(%.60q): %v", data, err)
	}
	if read, err := io.ReadAll(r); string(read) != data || err != nil {
		t.Errorf("the library reads %.60q, %v, not %.60q", read, err, data)
	}
}

// P6.1, P6.3: texts of all kinds, and all of one byte.
func TestWrap(t *testing.T) {
	for _, data := range texts() {
		wantWrap(t, data)
	}
	for b := range 256 {
		wantWrap(t, string([]byte{byte(b)}))
	}
}

// P6.1, P6.3: texts of so many bytes that both parts of the sum go round, and that Deflate makes two stored blocks.
func TestWrapLarge(t *testing.T) {
	for _, n := range []int{256, 257, 258, 5552, 5553, 65535, 65536, 70000} {
		wantWrap(t, strings.Repeat("\xff", n))
		wantWrap(t, noise(n))
	}
}

// P6.3: what Wrap wrote is rejected wherever it is cut off.
func TestTruncated(t *testing.T) {
	for _, data := range texts() {
		wrapped := zlib.Wrap(data)
		for n := range len(wrapped) {
			wantError(t, "cut off", wrapped[:n], len(data), api.ErrEnd)
		}
	}
}

// P6.2: streams of the library, of all its levels; their heads are not the one that Wrap writes, and their matches go farther back.
func TestLibraryStreams(t *testing.T) {
	far := noise(3000)
	for _, data := range append(texts(), far+far, noise(20000)+"a"+far) {
		for level := library.HuffmanOnly; level <= library.BestCompression; level++ {
			var b bytes.Buffer
			w, err := library.NewWriterLevel(&b, level)
			if err != nil {
				t.Fatal(err)
			}
			io.WriteString(w, data)
			w.Close()
			check(t, "the library's", b.String(), len(data), data, api.OK)
			wantError(t, "the library's and more", b.String()+"\x00", len(data), api.ErrMore)
		}
	}
}

// P6.2: a stream of the library that asks for a dictionary.
func TestLibraryDictionary(t *testing.T) {
	var b bytes.Buffer
	w, err := library.NewWriterLevelDict(&b, 6, []byte("vitrine"))
	if err != nil {
		t.Fatal(err)
	}
	io.WriteString(w, "vitrine")
	w.Close()
	wantError(t, "a dictionary", b.String(), big, api.ErrZlib)
}

// R3: a call does not depend on those before it.
func TestCallsAreApart(t *testing.T) {
	for range 2 {
		for _, data := range texts() {
			wantWrap(t, data)
			wantError(t, "a bad head", "\x78\x02"+data, big, api.ErrZlib)
		}
	}
}
