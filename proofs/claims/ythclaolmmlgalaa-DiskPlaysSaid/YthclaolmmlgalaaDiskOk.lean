/- What the laws on disks ask of package disk, out of the landed code: DiskR is kept by its calls. -/
import Derived.Test.YthclaolmmlgalaaDkDown
namespace Go.Proofs.Ythclaolmmlgalaa
open Go.RowKit
theorem disk_ok : DiskOk DiskR where
  keep := disk_keep
  new_ := fun n w hn => dk_new n w hn
  bad := fun n w h _ => dk_bad n w h
  append := fun h s A b c hl hA hb hk => dk_append h s A b c hl hA hb hk
  sync := fun h s hs => dk_sync h s hs
  cut := fun h s n hs _ => dk_cut h s n hs
  rename := fun h s t hs ht => dk_rename h s t hs ht
  delete := fun h s hs => dk_delete h s hs
  crash := fun h n g wk => dk_crash h n g wk
  start := fun h => dk_start h
  room := fun h n _ => dk_room h n
  read := fun h s hs => dk_read h s hs
  names := fun h => dk_names h
  size := fun h s hs => dk_size h s hs
  synced := fun h s hs => dk_synced h s hs
  used := fun h => dk_used h
end Go.Proofs.Ythclaolmmlgalaa
