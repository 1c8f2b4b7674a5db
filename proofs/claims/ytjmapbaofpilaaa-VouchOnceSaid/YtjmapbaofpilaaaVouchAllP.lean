/-
  PROVED: for every input each of the laws VouchFaces, VouchOnce, VouchLast returns true and leaves its arguments as they were. Conditions: none but the rows' own.
-/
import Derived.Test.YtjmapbaofpilaaaPackAY
import Derived.Test.YtjmapbaofpilaaaPackAZ
import Derived.Test.YtjmapbaofpilaaaPackBA
import Derived.Test.YtjmapbaofpilaaaVouchLastP

namespace Go.Proofs.Ytjmapbaofpilaaa.vouchAll
theorem faces : Rows.VouchFacesSaid := vouchFaces.over vouchC
theorem once : Rows.VouchOnceSaid := vouchOnce.over vouchC
theorem last : Rows.VouchLastSaid := vouchLast.over vouchC
end Go.Proofs.Ytjmapbaofpilaaa.vouchAll
