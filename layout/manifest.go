package layout

import "cairn/api"

// How many bytes of a manifest are no name's: of each blob, and of all together.
const (
	besideName  = 2 + 4
	besideBlobs = 4
)

// NameFits tells whether a blob may have this name.
func NameFits(name string) bool {
	return 1 <= len(name) && len(name) <= api.MaxName
}

// listFits tells whether names and sizes may be those of blobs that come by their names.
func listFits(names []string, sizes []int) bool {
	if len(names) != len(sizes) {
		return false
	}
	for i, name := range names {
		if !NameFits(name) || sizes[i] < 0 || i > 0 && name <= names[i-1] {
			return false
		}
	}
	return true
}

// ContentFits tells whether blobs of these names, which fit, and of these sizes are few and small enough for one archive.
func ContentFits(names []string, sizes []int) bool {
	return len(names) <= api.MaxBlobs && sizesFit(sizes) && manifestSize(names) <= api.MaxManifest
}

// sizesFit takes each size off the room that is left: a total could run over.
func sizesFit(sizes []int) bool {
	room := api.MaxTotal
	for _, size := range sizes {
		if size > room {
			return false
		}
		room -= size
	}
	return true
}

// Total gives how many bytes of data blobs of these sizes, which fit, have together.
func Total(sizes []int) int {
	total := 0
	for _, size := range sizes {
		total += size
	}
	return total
}

func manifestSize(names []string) int {
	size := besideBlobs
	for _, name := range names {
		size += besideName + len(name)
	}
	return size
}

// Manifest gives the manifest of blobs that fit and come by their names, and its sum behind it.
func Manifest(names []string, sizes []int) []byte {
	list := make([]byte, 0, manifestSize(names)+sumSize)
	list = appendNumber(list, uint64(len(names)), 4)
	for i, name := range names {
		list = appendNumber(list, uint64(len(name)), 2)
		list = append(list, name...)
		list = appendNumber(list, uint64(sizes[i]), 4)
	}
	return appendSum(list, list)
}
