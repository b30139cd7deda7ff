package depot

import "depot/api"

// Feed lets the public have a version (P9).
func (d *Depot) Feed(name string, version int, wants string) api.Errno { return api.OK }

// Publish lets a house have a version (P10).
func (d *Depot) Publish(house string, id int, pack string, version int, wants string) api.Errno {
	return api.OK
}

// Yank takes a version back, or lets it count again (P11).
func (d *Depot) Yank(house string, id int, pack string, version int, back bool) api.Errno {
	return api.OK
}

// Grant lets another house see a package (P12).
func (d *Depot) Grant(house string, id int, pack string, to string) api.Errno { return api.OK }

// Show tells the versions of a name (P13).
func (d *Depot) Show(house string, id int, name string) (string, api.Errno) { return "", api.OK }

// Resolve tells which versions go together (P14).
func (d *Depot) Resolve(house string, id int, wants string, budget int) (string, int, api.Errno) {
	return "", 0, api.OK
}

// Log tells what was done in a house (P15).
func (d *Depot) Log(house string, id int) (string, api.Errno) { return "", api.OK }

// Head tells the log's sum (P15).
func (d *Depot) Head(house string, id int) (int, api.Errno) { return 0, api.OK }
