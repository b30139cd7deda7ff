package depot

import "depot/api"

// Log tells what was done in a house (P15).
func (d *Depot) Log(house string, id int) (string, api.Errno) {
	h, e := d.mayWork(house, id, api.Admin)
	if e != api.OK {
		return "", e
	}
	return h.log.Text(), api.OK
}

// Head tells the log's sum (P15).
func (d *Depot) Head(house string, id int) (int, api.Errno) {
	h, e := d.mayWork(house, id, api.Admin)
	if e != api.OK {
		return 0, e
	}
	return h.log.Sum(), api.OK
}
