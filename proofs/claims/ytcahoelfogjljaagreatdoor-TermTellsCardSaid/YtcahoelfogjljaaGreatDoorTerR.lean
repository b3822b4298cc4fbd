/-
  The document's example is reckoned. No condition.
-/
import Derived.Test.YtcahoelfogjljaaGreatDoorTerG
set_option linter.unusedSimpArgs false
set_option linter.unusedVariables false
set_option linter.unusedSectionVars false
section
namespace Go.Proofs.YtcahoelfogjljaaGreatDoor
open Go Go.Eng
def zbv (f r:Nat):Go.Eng.Way:=match f,r with
 | 185,1=>.x
 | 186,4=>.x
 | 84,9=>.x
 | 132,4=>.l [9]
 | 90,5=>.x
 | 67,1=>.x
 | 71,1=>.x
 | 67,2=>.e [8]
 | 34,5=>.x
 | 140,2=>.e [9]
 | 77,4=>.x
 | 39,6=>.p [1,2,0,5,6,7,3,4,8,9] [6,0]
 | 109,3=>.l [7,2]
 | 78,6=>.x
 | _,_=>.auto
def A0:List AV:=[.ptr 0 0,.lit (.int .u8 (93)),.fn (.func 185) [] [.ptr 1 0,.ptr 3 0]]
def B0:zaa:=[.rw [str [123,34,116,97,103,115,34,58,91,34,97,34,44,34,98,34,44,91,34,99,34,93,93,125],i64 (8),i64 (-1)],.rw [.ref 2 0 1 4],.rw [i64 (4),i64 (0),str [],i64 (0)],.rw [.ptr 0 0]]
def X0:AEnd:=.ret (.tup [])
def Y0:zaa:=[.rw [str [123,34,116,97,103,115,34,58,91,34,97,34,44,34,98,34,44,91,34,99,34,93,93,125],i64 (23),i64 (-1)],.rw [.ref 4 0 5 4],.dead,.rw [.ptr 0 0],.rw [i64 (4),i64 (0),str [],i64 (3),i64 (3),i64 (0),str [97],i64 (0),i64 (3),i64 (0),str [98],i64 (0),i64 (4),i64 (0),str [],i64 (1),i64 (3),i64 (0),str [99],i64 (0)]]
def C0:FuncId→List AV→zaa→Option (AEnd × zaa):=xadd ctr0 184 A0 B0 X0 Y0
theorem rx0:xrun Tryz.prog TT ⟨ctr0,zbv,1000⟩ 60 true 184 A0 B0=some (X0,Y0):=by kernel_rfl
theorem ox0:ClOK Tryz.prog C0:=zby ctr0_ok (zaF zdk rfl (S:=⟨ctr0,zbv,1000⟩) ctr0_ok rx0)
def A1:List AV:=[.ref 0 0 7 4,.fn (.func 116) [] []]
def B1:zaa:=[.rw [i64 (5),i64 (0),str [],i64 (1),i64 (3),i64 (0),str [116,97,103,115],i64 (0),i64 (4),i64 (0),str [],i64 (3),i64 (3),i64 (0),str [97],i64 (0),i64 (3),i64 (0),str [98],i64 (0),i64 (4),i64 (0),str [],i64 (1),i64 (3),i64 (0),str [99],i64 (0)]]
def X1:AEnd:=.ret (i64 (-1))
def Y1:zaa:=[.rw [i64 (5),i64 (0),str [],i64 (1),i64 (3),i64 (0),str [116,97,103,115],i64 (0),i64 (4),i64 (0),str [],i64 (3),i64 (3),i64 (0),str [97],i64 (0),i64 (3),i64 (0),str [98],i64 (0),i64 (4),i64 (0),str [],i64 (1),i64 (3),i64 (0),str [99],i64 (0)]]
def C1:FuncId→List AV→zaa→Option (AEnd × zaa):=xadd C0 142 A1 B1 X1 Y1
theorem rx1:xrun Tryz.prog TT ⟨C0,zbv,1000⟩ 60 true 142 A1 B1=some (X1,Y1):=by kernel_rfl
theorem ox1:ClOK Tryz.prog C1:=zby ox0 (zaF zdk rfl (S:=⟨C0,zbv,1000⟩) ox0 rx1)
def A2:List AV:=[.ptr 0 0,i64 (5),i64 (3)]
def B2:zaa:=[.rw [.ref 1 0 7 4,.ref 2 0 7 1,i64 (3)],.rw [i64 (5),i64 (0),str [],i64 (1),i64 (3),i64 (0),str [116,97,103,115],i64 (0),i64 (4),i64 (0),str [],i64 (3),i64 (3),i64 (0),str [97],i64 (0),i64 (3),i64 (0),str [98],i64 (0),i64 (4),i64 (0),str [],i64 (1),i64 (3),i64 (0),str [99],i64 (0)],.rw [i64 (0),i64 (2),i64 (0),i64 (4),i64 (5),i64 (0),i64 (0)]]
def X2:AEnd:=.ret (i64 (7))
def Y2:zaa:=[.rw [.ref 1 0 7 4,.ref 2 0 7 1,i64 (4)],.rw [i64 (5),i64 (0),str [],i64 (1),i64 (3),i64 (0),str [116,97,103,115],i64 (0),i64 (4),i64 (0),str [],i64 (3),i64 (3),i64 (0),str [97],i64 (0),i64 (3),i64 (0),str [98],i64 (0),i64 (4),i64 (0),str [],i64 (1),i64 (3),i64 (0),str [99],i64 (0)],.rw [i64 (0),i64 (2),i64 (0),i64 (4),i64 (5),i64 (7),i64 (7)]]
def C2:FuncId→List AV→zaa→Option (AEnd × zaa):=xadd C1 118 A2 B2 X2 Y2
theorem rx2:xrun Tryz.prog TT ⟨C1,zbv,1000⟩ 60 true 118 A2 B2=some (X2,Y2):=by kernel_rfl
theorem ox2:ClOK Tryz.prog C2:=zby ox1 (zaF zdk rfl (S:=⟨C1,zbv,1000⟩) ox1 rx2)
def A3:List AV:=[.ptr 0 0,i64 (2),i64 (2)]
def B3:zaa:=[.rw [.ref 1 0 7 4,.ref 2 0 7 1,i64 (1)],.rw [i64 (5),i64 (0),str [],i64 (1),i64 (3),i64 (0),str [116,97,103,115],i64 (0),i64 (4),i64 (0),str [],i64 (3),i64 (3),i64 (0),str [97],i64 (0),i64 (3),i64 (0),str [98],i64 (0),i64 (4),i64 (0),str [],i64 (1),i64 (3),i64 (0),str [99],i64 (0)],.rw [i64 (0),i64 (2),i64 (0),i64 (0),i64 (0),i64 (0),i64 (0)]]
def X3:AEnd:=.ret (i64 (7))
def Y3:zaa:=[.rw [.ref 1 0 7 4,.ref 2 0 7 1,i64 (4)],.rw [i64 (5),i64 (0),str [],i64 (1),i64 (3),i64 (0),str [116,97,103,115],i64 (0),i64 (4),i64 (0),str [],i64 (3),i64 (3),i64 (0),str [97],i64 (0),i64 (3),i64 (0),str [98],i64 (0),i64 (4),i64 (0),str [],i64 (1),i64 (3),i64 (0),str [99],i64 (0)],.rw [i64 (0),i64 (2),i64 (7),i64 (4),i64 (5),i64 (7),i64 (7)]]
def C3:FuncId→List AV→zaa→Option (AEnd × zaa):=xadd C2 118 A3 B3 X3 Y3
theorem rx3:xrun Tryz.prog TT ⟨C2,zbv,1000⟩ 60 true 118 A3 B3=some (X3,Y3):=by kernel_rfl
theorem ox3:ClOK Tryz.prog C3:=zby ox2 (zaF zdk rfl (S:=⟨C2,zbv,1000⟩) ox2 rx3)
def A4:List AV:=[.ptr 0 0,i64 (0),i64 (1)]
def B4:zaa:=[.rw [.ref 1 0 7 4,.ref 2 0 7 1,i64 (0)],.rw [i64 (5),i64 (0),str [],i64 (1),i64 (3),i64 (0),str [116,97,103,115],i64 (0),i64 (4),i64 (0),str [],i64 (3),i64 (3),i64 (0),str [97],i64 (0),i64 (3),i64 (0),str [98],i64 (0),i64 (4),i64 (0),str [],i64 (1),i64 (3),i64 (0),str [99],i64 (0)],.rw [i64 (0),i64 (0),i64 (0),i64 (0),i64 (0),i64 (0),i64 (0)]]
def X4:AEnd:=.ret (i64 (7))
def Y4:zaa:=[.rw [.ref 1 0 7 4,.ref 2 0 7 1,i64 (4)],.rw [i64 (5),i64 (0),str [],i64 (1),i64 (3),i64 (0),str [116,97,103,115],i64 (0),i64 (4),i64 (0),str [],i64 (3),i64 (3),i64 (0),str [97],i64 (0),i64 (3),i64 (0),str [98],i64 (0),i64 (4),i64 (0),str [],i64 (1),i64 (3),i64 (0),str [99],i64 (0)],.rw [i64 (7),i64 (2),i64 (7),i64 (4),i64 (5),i64 (7),i64 (7)]]
def C4:FuncId→List AV→zaa→Option (AEnd × zaa):=xadd C3 118 A4 B4 X4 Y4
theorem rx4:xrun Tryz.prog TT ⟨C3,zbv,1000⟩ 60 true 118 A4 B4=some (X4,Y4):=by kernel_rfl
theorem ox4:ClOK Tryz.prog C4:=zby ox3 (zaF zdk rfl (S:=⟨C3,zbv,1000⟩) ox3 rx4)
def A5:List AV:=[str [123,34,116,97,103,115,34,58,91,34,97,34,44,34,98,34,44,91,34,99,34,93,93,125]]
def B5:zaa:=[]
def X5:AEnd:=.ret (.tup [.ref 0 0 7 4,.lit .nilIface])
def Y5:zaa:=[.rw [i64 (5),i64 (0),str [],i64 (1),i64 (3),i64 (0),str [116,97,103,115],i64 (0),i64 (4),i64 (0),str [],i64 (3),i64 (3),i64 (0),str [97],i64 (0),i64 (3),i64 (0),str [98],i64 (0),i64 (4),i64 (0),str [],i64 (1),i64 (3),i64 (0),str [99],i64 (0)]]
def C5:FuncId→List AV→zaa→Option (AEnd × zaa):=xadd C4 63 A5 B5 X5 Y5
theorem rx5:xrun Tryz.prog TT ⟨C4,zbv,1000⟩ 60 true 63 A5 B5=some (X5,Y5):=by kernel_rfl
theorem ox5:ClOK Tryz.prog C5:=zby ox4 (zaF zdk rfl (S:=⟨C4,zbv,1000⟩) ox4 rx5)
def A6:List AV:=[str [116,97,103,115],bl true]
def B6:zaa:=[]
def X6:AEnd:=.ret (.tup [.agg [str [116,97,103,115],i64 (-1)],str [],bl true])
def Y6:zaa:=[]
def C6:FuncId→List AV→zaa→Option (AEnd × zaa):=xadd C5 95 A6 B6 X6 Y6
theorem rx6:xrun Tryz.prog TT ⟨C5,zbv,1000⟩ 60 true 95 A6 B6=some (X6,Y6):=by kernel_rfl
theorem ox6:ClOK Tryz.prog C6:=zby ox5 (zaF zdk rfl (S:=⟨C5,zbv,1000⟩) ox5 rx6)
def A7:List AV:=[.ref 0 0 7 4,i64 (0)]
def B7:zaa:=[.rw [i64 (5),i64 (0),str [],i64 (1),i64 (3),i64 (0),str [116,97,103,115],i64 (0),i64 (4),i64 (0),str [],i64 (3),i64 (3),i64 (0),str [97],i64 (0),i64 (3),i64 (0),str [98],i64 (0),i64 (4),i64 (0),str [],i64 (1),i64 (3),i64 (0),str [99],i64 (0)]]
def X7:AEnd:=.ret (.ref 1 0 1 1)
def Y7:zaa:=[.rw [i64 (5),i64 (0),str [],i64 (1),i64 (3),i64 (0),str [116,97,103,115],i64 (0),i64 (4),i64 (0),str [],i64 (3),i64 (3),i64 (0),str [97],i64 (0),i64 (3),i64 (0),str [98],i64 (0),i64 (4),i64 (0),str [],i64 (1),i64 (3),i64 (0),str [99],i64 (0)],.rw [i64 (2)]]
def C7:FuncId→List AV→zaa→Option (AEnd × zaa):=xadd C6 28 A7 B7 X7 Y7
theorem rx7:xrun Tryz.prog TT ⟨C6,zbv,1000⟩ 60 true 28 A7 B7=some (X7,Y7):=by kernel_rfl
theorem ox7:ClOK Tryz.prog C7:=zby ox6 (zaF zdk rfl (S:=⟨C6,zbv,1000⟩) ox6 rx7)
def A8:List AV:=[.ref 0 0 7 4,i64 (0)]
def B8:zaa:=[.rw [i64 (5),i64 (0),str [],i64 (1),i64 (3),i64 (0),str [116,97,103,115],i64 (0),i64 (4),i64 (0),str [],i64 (3),i64 (3),i64 (0),str [97],i64 (0),i64 (3),i64 (0),str [98],i64 (0),i64 (4),i64 (0),str [],i64 (1),i64 (3),i64 (0),str [99],i64 (0)]]
def X8:AEnd:=.ret (.ref 1 0 1 1)
def Y8:zaa:=[.rw [i64 (5),i64 (0),str [],i64 (1),i64 (3),i64 (0),str [116,97,103,115],i64 (0),i64 (4),i64 (0),str [],i64 (3),i64 (3),i64 (0),str [97],i64 (0),i64 (3),i64 (0),str [98],i64 (0),i64 (4),i64 (0),str [],i64 (1),i64 (3),i64 (0),str [99],i64 (0)],.rw [str [116,97,103,115]]]
def C8:FuncId→List AV→zaa→Option (AEnd × zaa):=xadd C7 123 A8 B8 X8 Y8
theorem rx8:xrun Tryz.prog TT ⟨C7,zbv,1000⟩ 60 true 123 A8 B8=some (X8,Y8):=by kernel_rfl
theorem ox8:ClOK Tryz.prog C8:=zby ox7 (zaF zdk rfl (S:=⟨C7,zbv,1000⟩) ox7 rx8)
def A9:List AV:=[.ref 0 0 7 4,i64 (0),.agg [str [116,97,103,115],i64 (-1)]]
def B9:zaa:=[.rw [i64 (5),i64 (0),str [],i64 (1),i64 (3),i64 (0),str [116,97,103,115],i64 (0),i64 (4),i64 (0),str [],i64 (3),i64 (3),i64 (0),str [97],i64 (0),i64 (3),i64 (0),str [98],i64 (0),i64 (4),i64 (0),str [],i64 (1),i64 (3),i64 (0),str [99],i64 (0)]]
def X9:AEnd:=.ret (.ref 1 0 1 1)
def Y9:zaa:=[.rw [i64 (5),i64 (0),str [],i64 (1),i64 (3),i64 (0),str [116,97,103,115],i64 (0),i64 (4),i64 (0),str [],i64 (3),i64 (3),i64 (0),str [97],i64 (0),i64 (3),i64 (0),str [98],i64 (0),i64 (4),i64 (0),str [],i64 (1),i64 (3),i64 (0),str [99],i64 (0)],.rw [i64 (2)]]
def C9:FuncId→List AV→zaa→Option (AEnd × zaa):=xadd C8 59 A9 B9 X9 Y9
theorem rx9:xrun Tryz.prog TT ⟨C8,zbv,1000⟩ 60 true 59 A9 B9=some (X9,Y9):=by kernel_rfl
theorem ox9:ClOK Tryz.prog C9:=zby ox8 (zaF zdk rfl (S:=⟨C8,zbv,1000⟩) ox8 rx9)
def A10:List AV:=[.ref 0 0 7 4,str [116,97,103,115]]
def B10:zaa:=[.rw [i64 (5),i64 (0),str [],i64 (1),i64 (3),i64 (0),str [116,97,103,115],i64 (0),i64 (4),i64 (0),str [],i64 (3),i64 (3),i64 (0),str [97],i64 (0),i64 (3),i64 (0),str [98],i64 (0),i64 (4),i64 (0),str [],i64 (1),i64 (3),i64 (0),str [99],i64 (0)]]
def X10:AEnd:=.ret (.tup [.ref 1 0 1 1,i64 (0)])
def Y10:zaa:=[.rw [i64 (5),i64 (0),str [],i64 (1),i64 (3),i64 (0),str [116,97,103,115],i64 (0),i64 (4),i64 (0),str [],i64 (3),i64 (3),i64 (0),str [97],i64 (0),i64 (3),i64 (0),str [98],i64 (0),i64 (4),i64 (0),str [],i64 (1),i64 (3),i64 (0),str [99],i64 (0)],.rw [.ref 2 0 5 4],.rw [i64 (4),i64 (0),str [],i64 (3),i64 (3),i64 (0),str [97],i64 (0),i64 (3),i64 (0),str [98],i64 (0),i64 (4),i64 (0),str [],i64 (1),i64 (3),i64 (0),str [99],i64 (0)]]
def C10:FuncId→List AV→zaa→Option (AEnd × zaa):=xadd C9 27 A10 B10 X10 Y10
theorem rx10:xrun Tryz.prog TT ⟨C9,zbv,1000⟩ 60 true 27 A10 B10=some (X10,Y10):=by kernel_rfl
theorem ox10:ClOK Tryz.prog C10:=zby ox9 (zaF zdk rfl (S:=⟨C9,zbv,1000⟩) ox9 rx10)
def A11:List AV:=[.ptr 0 0,i64 (3),i64 (2)]
def B11:zaa:=[.rw [.ref 1 0 5 4,.ref 2 0 5 1,i64 (2)],.rw [i64 (4),i64 (0),str [],i64 (3),i64 (3),i64 (0),str [97],i64 (0),i64 (3),i64 (0),str [98],i64 (0),i64 (4),i64 (0),str [],i64 (1),i64 (3),i64 (0),str [99],i64 (0)],.rw [i64 (0),i64 (2),i64 (3),i64 (0),i64 (0)]]
def X11:AEnd:=.ret (i64 (5))
def Y11:zaa:=[.rw [.ref 1 0 5 4,.ref 2 0 5 1,i64 (3)],.rw [i64 (4),i64 (0),str [],i64 (3),i64 (3),i64 (0),str [97],i64 (0),i64 (3),i64 (0),str [98],i64 (0),i64 (4),i64 (0),str [],i64 (1),i64 (3),i64 (0),str [99],i64 (0)],.rw [i64 (0),i64 (2),i64 (3),i64 (5),i64 (5)]]
def C11:FuncId→List AV→zaa→Option (AEnd × zaa):=xadd C10 118 A11 B11 X11 Y11
theorem rx11:xrun Tryz.prog TT ⟨C10,zbv,1000⟩ 60 true 118 A11 B11=some (X11,Y11):=by kernel_rfl
theorem ox11:ClOK Tryz.prog C11:=zby ox10 (zaF zdk rfl (S:=⟨C10,zbv,1000⟩) ox10 rx11)
def A12:List AV:=[.ptr 0 0,i64 (0),i64 (1)]
def B12:zaa:=[.rw [.ref 1 0 5 4,.ref 2 0 5 1,i64 (0)],.rw [i64 (4),i64 (0),str [],i64 (3),i64 (3),i64 (0),str [97],i64 (0),i64 (3),i64 (0),str [98],i64 (0),i64 (4),i64 (0),str [],i64 (1),i64 (3),i64 (0),str [99],i64 (0)],.rw [i64 (0),i64 (0),i64 (0),i64 (0),i64 (0)]]
def X12:AEnd:=.ret (i64 (5))
def Y12:zaa:=[.rw [.ref 1 0 5 4,.ref 2 0 5 1,i64 (3)],.rw [i64 (4),i64 (0),str [],i64 (3),i64 (3),i64 (0),str [97],i64 (0),i64 (3),i64 (0),str [98],i64 (0),i64 (4),i64 (0),str [],i64 (1),i64 (3),i64 (0),str [99],i64 (0)],.rw [i64 (5),i64 (2),i64 (3),i64 (5),i64 (5)]]
def C12:FuncId→List AV→zaa→Option (AEnd × zaa):=xadd C11 118 A12 B12 X12 Y12
theorem rx12:xrun Tryz.prog TT ⟨C11,zbv,1000⟩ 60 true 118 A12 B12=some (X12,Y12):=by kernel_rfl
theorem ox12:ClOK Tryz.prog C12:=zby ox11 (zaF zdk rfl (S:=⟨C11,zbv,1000⟩) ox11 rx12)
def A13:List AV:=[.ref 0 0 5 4,i64 (0)]
def B13:zaa:=[.rw [i64 (4),i64 (0),str [],i64 (3),i64 (3),i64 (0),str [97],i64 (0),i64 (3),i64 (0),str [98],i64 (0),i64 (4),i64 (0),str [],i64 (1),i64 (3),i64 (0),str [99],i64 (0)]]
def X13:AEnd:=.ret (.tup [.ref 1 0 5 1,bl true])
def Y13:zaa:=[.rw [i64 (4),i64 (0),str [],i64 (3),i64 (3),i64 (0),str [97],i64 (0),i64 (3),i64 (0),str [98],i64 (0),i64 (4),i64 (0),str [],i64 (1),i64 (3),i64 (0),str [99],i64 (0)],.rw [i64 (5),i64 (2),i64 (3),i64 (5),i64 (5)]]
def C13:FuncId→List AV→zaa→Option (AEnd × zaa):=xadd C12 60 A13 B13 X13 Y13
theorem rx13:xrun Tryz.prog TT ⟨C12,zbv,1000⟩ 60 true 60 A13 B13=some (X13,Y13):=by kernel_rfl
theorem ox13:ClOK Tryz.prog C13:=zby ox12 (zaF zdk rfl (S:=⟨C12,zbv,1000⟩) ox12 rx13)
def A14:List AV:=[.ref 0 0 5 4,i64 (1)]
def B14:zaa:=[.rw [i64 (4),i64 (0),str [],i64 (3),i64 (3),i64 (0),str [97],i64 (0),i64 (3),i64 (0),str [98],i64 (0),i64 (4),i64 (0),str [],i64 (1),i64 (3),i64 (0),str [99],i64 (0)]]
def X14:AEnd:=.ret (.tup [.ref 1 0 5 1,bl true])
def Y14:zaa:=[.rw [i64 (4),i64 (0),str [],i64 (3),i64 (3),i64 (0),str [97],i64 (0),i64 (3),i64 (0),str [98],i64 (0),i64 (4),i64 (0),str [],i64 (1),i64 (3),i64 (0),str [99],i64 (0)],.rw [i64 (5),i64 (2),i64 (3),i64 (5),i64 (5)]]
def C14:FuncId→List AV→zaa→Option (AEnd × zaa):=xadd C13 60 A14 B14 X14 Y14
theorem rx14:xrun Tryz.prog TT ⟨C13,zbv,1000⟩ 60 true 60 A14 B14=some (X14,Y14):=by kernel_rfl
theorem ox14:ClOK Tryz.prog C14:=zby ox13 (zaF zdk rfl (S:=⟨C13,zbv,1000⟩) ox13 rx14)
def A15:List AV:=[.ref 0 0 5 4,i64 (2)]
def B15:zaa:=[.rw [i64 (4),i64 (0),str [],i64 (3),i64 (3),i64 (0),str [97],i64 (0),i64 (3),i64 (0),str [98],i64 (0),i64 (4),i64 (0),str [],i64 (1),i64 (3),i64 (0),str [99],i64 (0)]]
def X15:AEnd:=.ret (.tup [.ref 1 0 5 1,bl true])
def Y15:zaa:=[.rw [i64 (4),i64 (0),str [],i64 (3),i64 (3),i64 (0),str [97],i64 (0),i64 (3),i64 (0),str [98],i64 (0),i64 (4),i64 (0),str [],i64 (1),i64 (3),i64 (0),str [99],i64 (0)],.rw [i64 (5),i64 (2),i64 (3),i64 (5),i64 (5)]]
def C15:FuncId→List AV→zaa→Option (AEnd × zaa):=xadd C14 60 A15 B15 X15 Y15
theorem rx15:xrun Tryz.prog TT ⟨C14,zbv,1000⟩ 60 true 60 A15 B15=some (X15,Y15):=by kernel_rfl
theorem ox15:ClOK Tryz.prog C15:=zby ox14 (zaF zdk rfl (S:=⟨C14,zbv,1000⟩) ox14 rx15)
def A16:List AV:=[.ref 0 0 5 4,i64 (3)]
def B16:zaa:=[.rw [i64 (4),i64 (0),str [],i64 (3),i64 (3),i64 (0),str [97],i64 (0),i64 (3),i64 (0),str [98],i64 (0),i64 (4),i64 (0),str [],i64 (1),i64 (3),i64 (0),str [99],i64 (0)]]
def X16:AEnd:=.ret (.tup [.ref 1 0 5 1,bl true])
def Y16:zaa:=[.rw [i64 (4),i64 (0),str [],i64 (3),i64 (3),i64 (0),str [97],i64 (0),i64 (3),i64 (0),str [98],i64 (0),i64 (4),i64 (0),str [],i64 (1),i64 (3),i64 (0),str [99],i64 (0)],.rw [i64 (5),i64 (2),i64 (3),i64 (5),i64 (5)]]
def C16:FuncId→List AV→zaa→Option (AEnd × zaa):=xadd C15 60 A16 B16 X16 Y16
theorem rx16:xrun Tryz.prog TT ⟨C15,zbv,1000⟩ 60 true 60 A16 B16=some (X16,Y16):=by kernel_rfl
theorem ox16:ClOK Tryz.prog C16:=zby ox15 (zaF zdk rfl (S:=⟨C15,zbv,1000⟩) ox15 rx16)
def A17:List AV:=[.ref 0 0 5 4]
def B17:zaa:=[.rw [i64 (4),i64 (0),str [],i64 (3),i64 (3),i64 (0),str [97],i64 (0),i64 (3),i64 (0),str [98],i64 (0),i64 (4),i64 (0),str [],i64 (1),i64 (3),i64 (0),str [99],i64 (0)]]
def X17:AEnd:=.ret (.ref 1 0 3 1)
def Y17:zaa:=[.rw [i64 (4),i64 (0),str [],i64 (3),i64 (3),i64 (0),str [97],i64 (0),i64 (3),i64 (0),str [98],i64 (0),i64 (4),i64 (0),str [],i64 (1),i64 (3),i64 (0),str [99],i64 (0)],.rw [.ref 2 0 1 4,.ref 3 0 1 4,.ref 4 0 2 4],.rw [i64 (3),i64 (0),str [97],i64 (0)],.rw [i64 (3),i64 (0),str [98],i64 (0)],.rw [i64 (4),i64 (0),str [],i64 (1),i64 (3),i64 (0),str [99],i64 (0)]]
def C17:FuncId→List AV→zaa→Option (AEnd × zaa):=xadd C16 44 A17 B17 X17 Y17
theorem rx17:xrun Tryz.prog TT ⟨C16,zbv,1000⟩ 60 true 44 A17 B17=some (X17,Y17):=by kernel_rfl
theorem ox17:ClOK Tryz.prog C17:=zby ox16 (zaF zdk rfl (S:=⟨C16,zbv,1000⟩) ox16 rx17)
def A18:List AV:=[.ref 0 0 1 4]
def B18:zaa:=[.rw [i64 (3),i64 (0),str [97],i64 (0)]]
def X18:AEnd:=.ret (.tup [.ref 1 0 1 1,i64 (1),i64 (0)])
def Y18:zaa:=[.rw [i64 (3),i64 (0),str [97],i64 (0)],.rw [i64 (1)]]
def C18:FuncId→List AV→zaa→Option (AEnd × zaa):=xadd C17 84 A18 B18 X18 Y18
theorem rx18:xrun Tryz.prog TT ⟨C17,zbv,1000⟩ 60 true 84 A18 B18=some (X18,Y18):=by kernel_rfl
theorem ox18:ClOK Tryz.prog C18:=zby ox17 (zaF zdk rfl (S:=⟨C17,zbv,1000⟩) ox17 rx18)
def A19:List AV:=[.ref 0 0 1 4]
def B19:zaa:=[.rw [i64 (3),i64 (0),str [97],i64 (0)]]
def X19:AEnd:=.ret (.tup [str [4,97,0,0],i64 (0)])
def Y19:zaa:=[.rw [i64 (3),i64 (0),str [97],i64 (0)]]
def C19:FuncId→List AV→zaa→Option (AEnd × zaa):=xadd C18 32 A19 B19 X19 Y19
theorem rx19:xrun Tryz.prog TT ⟨C18,zbv,1000⟩ 60 true 32 A19 B19=some (X19,Y19):=by kernel_rfl
theorem ox19:ClOK Tryz.prog C19:=zby ox18 (zaF zdk rfl (S:=⟨C18,zbv,1000⟩) ox18 rx19)
def A20:List AV:=[.ref 0 0 2 1]
def B20:zaa:=[.rw [str [116,97,103,115],str [4,97,0,0]]]
def X20:AEnd:=.ret (str [4,116,97,103,115,0,0,4,4,97,0,255,0,255,0,0])
def Y20:zaa:=[.rw [str [116,97,103,115],str [4,97,0,0]]]
def C20:FuncId→List AV→zaa→Option (AEnd × zaa):=xadd C19 34 A20 B20 X20 Y20
theorem rx20:xrun Tryz.prog TT ⟨C19,zbv,1000⟩ 60 true 34 A20 B20=some (X20,Y20):=by kernel_rfl
theorem ox20:ClOK Tryz.prog C20:=zby ox19 (zaF zdk rfl (S:=⟨C19,zbv,1000⟩) ox19 rx20)
def A21:List AV:=[.fn (.func 85) [] [.ptr 0 0,.ptr 2 0]]
def B21:zaa:=[.rw [.ref 1 0 1 1],.rw [str [116,97,103,115]],.rw [.ref 3 0 7 4],.rw [i64 (5),i64 (0),str [],i64 (1),i64 (3),i64 (0),str [116,97,103,115],i64 (0),i64 (4),i64 (0),str [],i64 (3),i64 (3),i64 (0),str [97],i64 (0),i64 (3),i64 (0),str [98],i64 (0),i64 (4),i64 (0),str [],i64 (1),i64 (3),i64 (0),str [99],i64 (0)]]
def X21:AEnd:=.ret (.mpt 4)
def Y21:zaa:=[.rw [.ref 1 0 1 1],.rw [str [116,97,103,115]],.rw [.ref 3 0 7 4],.rw [i64 (5),i64 (0),str [],i64 (1),i64 (3),i64 (0),str [116,97,103,115],i64 (0),i64 (4),i64 (0),str [],i64 (3),i64 (3),i64 (0),str [97],i64 (0),i64 (3),i64 (0),str [98],i64 (0),i64 (4),i64 (0),str [],i64 (1),i64 (3),i64 (0),str [99],i64 (0)],.mpb [.string ⟨#[4,116,97,103,115,0,0,4,4,97,0,255,0,255,0,0]⟩,.string ⟨#[4,116,97,103,115,0,0,4,4,98,0,255,0,255,0,0]⟩] [.agg [],.agg []]]
def C21:FuncId→List AV→zaa→Option (AEnd × zaa):=xadd C20 49 A21 B21 X21 Y21
theorem rx21:xrun Tryz.prog TT ⟨C20,zbv,1000⟩ 60 true 49 A21 B21=some (X21,Y21):=by kernel_rfl
theorem ox21:ClOK Tryz.prog C21:=zby ox20 (zaF zdk rfl (S:=⟨C20,zbv,1000⟩) ox20 rx21)
def A22:List AV:=[str [4,116,97,103,115,0,0,4,4,97,0,255,0,255,0,0]]
def B22:zaa:=[]
def X22:AEnd:=.ret (.tup [str [116,97,103,115],.ref 0 0 1 4,i64 (0)])
def Y22:zaa:=[.rw [i64 (3),i64 (0),str [97],i64 (0)]]
def C22:FuncId→List AV→zaa→Option (AEnd × zaa):=xadd C21 12 A22 B22 X22 Y22
theorem rx22:xrun Tryz.prog TT ⟨C21,zbv,1000⟩ 60 true 12 A22 B22=some (X22,Y22):=by kernel_rfl
theorem ox22:ClOK Tryz.prog C22:=zby ox21 (zaF zdk rfl (S:=⟨C21,zbv,1000⟩) ox21 rx22)
def A23:List AV:=[]
def B23:zaa:=[]
def X23:AEnd:=.ret (bl true)
def Y23:zaa:=[]
theorem rx23:xrun Tryz.prog TT ⟨C22,zbv,1000⟩ 60 true 8 A23 B23=some (X23,Y23):=by kernel_rfl
end Go.Proofs.YtcahoelfogjljaaGreatDoor
end

