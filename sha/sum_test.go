package sha_test

import (
	"strings"
	"syscall"
	"testing"
	"unsafe"

	"vitrine/sha"
)

// P14.1, P14.2: the chapter's examples.
func TestExamples(t *testing.T) {
	wantHex(t, sha.Sum(""), "e3b0c44298fc1c149afbf4c8996fb92427ae41e4649b934ca495991b7852b855")
	wantHex(t, sha.Sum("abc"), "ba7816bf8f01cfea414140de5dae2223b00361a396177a9cb410ff61f20015ad")
}

// P14.1: texts and bytes whose digests are published with the standard, or well known.
func TestKnownSums(t *testing.T) {
	for _, x := range [][2]string{
		{"The quick brown fox jumps over the lazy dog", "d7a8fbb307d7809469ca9abcb0082e4f8d5651e46d3cdb762d02d0bf37c9e592"},
		{"The quick brown fox jumps over the lazy dog.", "ef537f25c895bfa782526529a9b63d97aa631564d5d789c2b765448c8635fb6c"},
		{"message digest", "f7846f55cf23e14eebeab5b4e1550cad5b509e3348fbc4efa3a1413d393cb650"},
		{"abcdefghijklmnopqrstuvwxyz", "71c480df93d6ae2f1efad1447c66c9525e316218cf51fc8d9ed832f2daf18b73"},
		{"ABCDEFGHIJKLMNOPQRSTUVWXYZabcdefghijklmnopqrstuvwxyz0123456789", "db4bfcbd4da0cd85a60c3c37d3fbd8805c77f15fc6b1fdfe614ee0a7c8fdb4c0"},
		{"abcdbcdecdefdefgefghfghighijhijkijkljklmklmnlmnomnopnopq", "248d6a61d20638b8e5c026930c3e6039a33ce45964ff2167f6ecedd419db06c1"},
		{"abcdefghbcdefghicdefghijdefghijkefghijklfghijklmghijklmnhijklmnoijklmnopjklmnopqklmnopqrlmnopqrsmnopqrstnopqrstu", "cf5b16a778af8380036ce59e7b0492370b249b11e8f07a51afac45037afee9d1"},
		{"\xbd", "68325720aabd7c82f30f554b313d0570c95accbb7dc4b5aae11204c08ffe732b"},
		{"\xc9\x8c\x8e\x55", "7abc22c0ae5af26ce93dbb94433a0e0b2e119d014f8e7f65bd56c61ccccd9504"},
		{strings.Repeat("a", 1000000), "cdc76e5c9914fb9281a1c7e284d73e67f1809a48a497200e046d39ccc7112cd0"},
	} {
		wantSum(t, x[0], x[1])
		wantLibrary(t, x[0])
	}
}

// P14.1, P14.3: lengths around each edge of the padding and of the bytes of the length, of bytes 0, of bytes 255 and of letters a. The digests are of another program.
func TestLengths(t *testing.T) {
	for _, x := range []struct {
		n                    int
		zeros, ones, letters string
	}{
		{0, "e3b0c44298fc1c149afbf4c8996fb92427ae41e4649b934ca495991b7852b855", "e3b0c44298fc1c149afbf4c8996fb92427ae41e4649b934ca495991b7852b855", "e3b0c44298fc1c149afbf4c8996fb92427ae41e4649b934ca495991b7852b855"},
		{1, "6e340b9cffb37a989ca544e6bb780a2c78901d3fb33738768511a30617afa01d", "a8100ae6aa1940d0b663bb31cd466142ebbdbd5187131b92d93818987832eb89", "ca978112ca1bbdcafac231b39a23dc4da786eff8147c4e72b9807785afee48bb"},
		{31, "fd08be957bda07dc529ad8100df732f9ce12ae3e42bcda6acabe12c02dfd6989", "76942cd290464dbb5e869731ffc41017d75f3f144f001405ca24087447b1d60d", "61c60b487d1a921e0bcc9bf853dda0fb159b30bf57b2e2d2c753b00be15b5a09"},
		{32, "66687aadf862bd776c8fc18b8e9f8e20089714856ee233b3902a591d0d5f2925", "af9613760f72635fbdb44a5a0a63c39f12af30f950a6ee5c971be188e89c4051", "3ba3f5f43b92602683c19aee62a20342b084dd5971ddd33808d81a328879a547"},
		{54, "ea659cdc838619b3767c057fdf8e6d99fde2680c5d8517eb06761c0878d40c40", "1d15acfeb2edbd16f21951af2d9db31a9dd540a6f27b5cddef7c69e5ec1ee00c", "a3f01b6939256127582ac8ae9fb47a382a244680806a3f613a118851c1ca1d47"},
		{55, "02779466cdec163811d078815c633f21901413081449002f24aa3e80f0b88ef7", "aadaed00a3c5fbb8072ae7f1984ba8199fbe5272de427d11eaf31583af37db51", "9f4390f8d30c2dd92ec9f095b65e2b9ae9b0a925a5258e241c9f1e910f734318"},
		{56, "d4817aa5497628e7c77e6b606107042bbba3130888c5f47a375e6179be789fbb", "528ff50ab05e77bbbd224a9ec86165dbb6824a9a9efb544be0a1d57d5b416457", "b35439a4ac6f0948b6d6f9e3c6af0f5f590ce20f1bde7090ef7970686ec6738a"},
		{57, "65a16cb7861335d5ace3c60718b5052e44660726da4cd13bb745381b235a1785", "6eaa0abf8d7eda3e157692f5191a59bc08196ac193f6ac3bdde2af54214f2240", "f13b2d724659eb3bf47f2dd6af1accc87b81f09f59f2b75e5c0bed6589dfe8c6"},
		{63, "c7723fa1e0127975e49e62e753db53924c1bd84b8ac1ac08df78d09270f3d971", "d12449c8124182545ae91924286cc6af13528bcf62a5ddbd5e00b891fffc1b48", "7d3e74a05d7db15bce4ad9ec0658ea98e3f06eeecf16b4c6fff2da457ddc2f34"},
		{64, "f5a5fd42d16a20302798ef6ed309979b43003d2320d9f0e8ea9831a92759fb4b", "8667e718294e9e0df1d30600ba3eeb201f764aad2dad72748643e4a285e1d1f7", "ffe054fe7ae0cb6dc65c3af9b61d5209f439851db43d0ba5997337df154668eb"},
		{65, "98ce42deef51d40269d542f5314bef2c7468d401ad5d85168bfab4c0108f75f7", "855c9a28fff2bbbd71327165554a00c6fdd44d5d58c1f12b8fdff29b5d67f001", "635361c48bb9eab14198e76ea8ab7f1a41685d6ad62aa9146d301d4f17eb0ae0"},
		{119, "f616b0d54e78571a9611f343c9f8e022e859e920381ab0e4d3da01e193a7bd7e", "b863f94597d433ef2280e3b4656f13ea265a79bb8047287321c218905b03c99b", "31eba51c313a5c08226adf18d4a359cfdfd8d2e816b13f4af952f7ea6584dcfb"},
		{120, "6edd9f6f9cc92cded36e6c4a580933f9c9f1b90562b46903b806f21902a1a54f", "9088fee917e5a748c2f0b4f5458c1cbdabbd696291c69be6e605bae0ef779e8f", "2f3d335432c70b580af0e8e1b3674a7c020d683aa5f73aaaedfdc55af904c21c"},
		{127, "15dae5979058bfbf4f9166029b6e340ea3ca374fef578a11dc9e6e923860d7ae", "67341bf96ebc543506d0ef5c98288263306e5454b082aba87e881d54c007fba7", "c57e9278af78fa3cab38667bef4ce29d783787a2f731d4e12200270f0c32320a"},
		{128, "38723a2e5e8a17aa7950dc008209944e898f69a7bd10a23c839d341e935fd5ca", "e9175db65a9789096ca9cb5524d3abc2107df03e3c9ba3af1aca628f9c5d3bd2", "6836cf13bac400e9105071cd6af47084dfacad4e5e302c94bfed24e013afb73e"},
		{129, "2c80619d7e7c58257293cda3a878c13e5856f4e06f6f90601276f7b9179c9e07", "c458df9bcd770f7a870b3bf6fa4c6f7c19d03c5015e40b0d8dbede68a0764e54", "c12cb024a2e5551cca0e08fce8f1c5e314555cc3fef6329ee994a3db752166ae"},
		{8191, "ded7e73bae26db73b29a51bca3cd2d1d6906107d889775f610f0ce63c2089365", "f1deeba00f11e69cd9ce4b3fccf3e48ce8f94fe2e19596d53bd066e56365178c", "d691798dcd3bab9099e84b4cbc484caef67262d1ef5dca83330d07f5ce4740dd"},
		{8192, "9f1dcbc35c350d6027f98be0f5c8b43b42ca52b7604459c0c42be3aa88913d47", "7d2c7ac4888bfd75cd5f56e8d61f69595121183afc81556c876732fd3782c62f", "dd4e6730520932767ec0a9e33fe19c4ce24399d6eba4ff62f13013c9ed30ef87"},
		{2097151, "3eae3e14862b9061a2cbe9c782df1366039096b2d1888c30850b66fb8d87813c", "1be4aa9fcd3ef5a24addde0fdb974b2dd8e56b61566db50b8a3ac1564ce49aa0", "71b376ff5ccc5960e4696688f04cc086c90dc4ac1b36be0f50355611d32cb738"},
		{2097152, "5647f05ec18958947d32874eeb788fa396a05d0bab7c1b71f112ceb7e9b31eee", "4bda3a28f4ffe603c0ec1258c0034d65a1a0d35ab7bd523a834608adabf03cc5", "5256ec18f11624025905d057d6befb03d77b243511ac5f77ed5e0221ce6d84b5"},
	} {
		wantSum(t, strings.Repeat("\x00", x.n), x.zeros)
		wantSum(t, strings.Repeat("\xff", x.n), x.ones)
		wantSum(t, strings.Repeat("a", x.n), x.letters)
	}
}

// P14.1: each length up to ten blocks.
func TestEachLength(t *testing.T) {
	for n := range 641 {
		for _, data := range []string{noise(n, n), strings.Repeat("\x00", n), strings.Repeat("\xff", n), strings.Repeat("\x80", n)} {
			wantModel(t, data)
		}
	}
}

// P14.1: each byte alone, ahead of a block, at its end and behind it.
func TestEachByte(t *testing.T) {
	rest := noise(140, 63)
	for b := range 256 {
		x := string([]byte{byte(b)})
		for _, data := range []string{x, x + rest, rest + x, rest + "y" + x, x + x} {
			wantModel(t, data)
		}
	}
}

// P14.1, P14.3: many blocks, and the first of them in each other order.
func TestManyBlocks(t *testing.T) {
	for _, n := range []int{640, 4096, 8191, 8192, 65535, 65536, 65537, 300000} {
		wantModel(t, noise(n, n))
	}
	a, b, c := noise(141, 64), noise(142, 64), noise(143, 64)
	seen := map[string]bool{}
	for _, data := range []string{a + b + c, a + c + b, b + a + c, b + c + a, c + a + b, c + b + a, a + a + a, a + b, b + a, a, b, c} {
		wantModel(t, data)
		seen[sha.Sum(data)] = true
	}
	if len(seen) != 12 {
		t.Errorf("%d digests of 12 strings", len(seen))
	}
}

// P14.1: strings that differ in one bit, of lengths at the edges of the padding.
func TestOneBit(t *testing.T) {
	for _, n := range edges() {
		data := noise(n, n)
		seen := map[string]bool{sha.Sum(data): true}
		for bit := range 8 * n {
			other := []byte(data)
			other[bit/8] ^= 1 << (bit % 8)
			wantLibrary(t, string(other))
			seen[sha.Sum(string(other))] = true
		}
		if len(seen) != 8*n+1 {
			t.Errorf("%d digests of %d strings of %d bytes", len(seen), 8*n+1, n)
		}
	}
}

// P14.1: strings that end as the padding of others does, or have all of it.
func TestPaddingAsData(t *testing.T) {
	seen, count := map[string]bool{}, 0
	for _, n := range edges() {
		data := noise(n, n)
		list := []string{data, data + "\x00", data + "\x80", data + "\x80\x00", data + "\x00\x00", padded(data), padded(data) + "\x00", padded(padded(data))}
		for _, s := range list {
			wantModel(t, s)
			seen[sha.Sum(s)] = true
			count++
		}
	}
	if len(seen) != count {
		t.Errorf("%d digests of %d strings", len(seen), count)
	}
}

// P14.1: lengths whose bits are more than 4 bytes can tell. Their memory comes from the system, which need not have it as long as nobody writes there.
func TestLongLengths(t *testing.T) {
	for _, x := range []struct {
		n    int
		want string
	}{
		{536870912, "9acca8e8c22201155389f65abbf6bc9723edc7384ead80503839f49dcc56d767"},
		{805306373, "7173eb1a5199c09e170788c5dc4fb2102a8142e4a7adb02643f92eb79afc9075"},
	} {
		t.Run(x.want[:8], func(t *testing.T) {
			t.Parallel()
			zeros, err := syscall.Mmap(-1, 0, x.n, syscall.PROT_READ, syscall.MAP_ANON|syscall.MAP_PRIVATE)
			if err != nil {
				t.Skip(err)
			}
			defer syscall.Munmap(zeros)
			if got := words(sha.Sum(unsafe.String(&zeros[0], x.n))); got != x.want {
				t.Errorf("Sum of %d bytes is %s, not %s", x.n, got, x.want)
			}
		})
	}
}
