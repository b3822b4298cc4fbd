/-
  The document's example is reckoned. No condition.
-/
import Derived.Test.YtdigkoejfgmecaaGreatDoorQueD
set_option linter.unusedSimpArgs false
set_option linter.unusedVariables false
set_option linter.unusedSectionVars false
section
namespace Go.Proofs.YtdigkoejfgmecaaGreatDoor
open Go Go.Eng
def za5 (f r:Nat):Go.Eng.Way:=match f,r with
 | 210,1=>.x
 | 211,4=>.x
 | 37,9=>.x
 | 168,4=>.l [9]
 | 92,5=>.x
 | 97,1=>.e [12]
 | 97,2=>.e [12]
 | 300,0=>.l [8,2]
 | 21,12=>.e [7]
 | 301,0=>.l [25,1]
 | 195,1=>.m [(8,.mk 8 66),(0,.mk 9 66),(0,.st 8 66 17),(0,.st 9 66 21)]
 | _,_=>.auto
def A0:List AV:=[str [53],i64 (10),i64 (64)]
def B0:zaa:=[]
def X0:AEnd:=.ret (.tup [i64 (5),.lit .nilIface])
def Y0:zaa:=[]
def C0:FuncId→List AV→zaa→Option (AEnd × zaa):=xadd ctrB 236 A0 B0 X0 Y0
theorem rx0:xrun Tryz.prog TT ⟨ctrB,za5,1000⟩ 60 true 236 A0 B0=some (X0,Y0):=by kernel_rfl
theorem ox0:ClOK Tryz.prog C0:=za7 ctrB_ok (zaA zcL rfl (S:=⟨ctrB,za5,1000⟩) ctrB_ok rx0)
def A1:List AV:=[.ptr 0 0,.lit (.int .u8 (93)),.fn (.func 210) [] [.ptr 1 0,.ptr 3 0]]
def B1:zaa:=[.rw [str [123,34,97,34,58,91,49,44,53,93,125],i64 (5),i64 (-1)],.rw [.ref 2 0 1 4],.rw [i64 (4),i64 (0),str [],i64 (0)],.rw [.ptr 0 0]]
def X1:AEnd:=.ret (.tup [])
def Y1:zaa:=[.rw [str [123,34,97,34,58,91,49,44,53,93,125],i64 (10),i64 (-1)],.rw [.ref 4 0 3 4],.dead,.rw [.ptr 0 0],.rw [i64 (4),i64 (0),str [],i64 (2),i64 (2),i64 (1),str [],i64 (0),i64 (2),i64 (5),str [],i64 (0)]]
def C1:FuncId→List AV→zaa→Option (AEnd × zaa):=xadd C0 209 A1 B1 X1 Y1
theorem rx1:xrun Tryz.prog TT ⟨C0,za5,1000⟩ 60 true 209 A1 B1=some (X1,Y1):=by kernel_rfl
theorem ox1:ClOK Tryz.prog C1:=za7 ox0 (zaA zcL rfl (S:=⟨C0,za5,1000⟩) ox0 rx1)
def A2:List AV:=[.ptr 0 0]
def B2:zaa:=[.rw [str [123,34,97,34,58,91,49,44,53,93,125],i64 (0),i64 (-1)]]
def X2:AEnd:=.ret (.ref 1 0 5 4)
def Y2:zaa:=[.rw [str [123,34,97,34,58,91,49,44,53,93,125],i64 (11),i64 (-1)],.rw [i64 (5),i64 (0),str [],i64 (1),i64 (3),i64 (0),str [97],i64 (0),i64 (4),i64 (0),str [],i64 (2),i64 (2),i64 (1),str [],i64 (0),i64 (2),i64 (5),str [],i64 (0)]]
def C2:FuncId→List AV→zaa→Option (AEnd × zaa):=xadd C1 94 A2 B2 X2 Y2
theorem rx2:xrun Tryz.prog TT ⟨C1,za5,1000⟩ 60 true 94 A2 B2=some (X2,Y2):=by kernel_rfl
theorem ox2:ClOK Tryz.prog C2:=za7 ox1 (zaA zcL rfl (S:=⟨C1,za5,1000⟩) ox1 rx2)
def A3:List AV:=[.ptr 0 0,i64 (2),i64 (2)]
def B3:zaa:=[.rw [.ref 1 0 5 4,.ref 2 0 5 1,i64 (1)],.rw [i64 (5),i64 (0),str [],i64 (1),i64 (3),i64 (0),str [97],i64 (0),i64 (4),i64 (0),str [],i64 (2),i64 (2),i64 (1),str [],i64 (0),i64 (2),i64 (5),str [],i64 (0)],.rw [i64 (0),i64 (2),i64 (0),i64 (0),i64 (0)]]
def X3:AEnd:=.ret (i64 (5))
def Y3:zaa:=[.rw [.ref 1 0 5 4,.ref 2 0 5 1,i64 (3)],.rw [i64 (5),i64 (0),str [],i64 (1),i64 (3),i64 (0),str [97],i64 (0),i64 (4),i64 (0),str [],i64 (2),i64 (2),i64 (1),str [],i64 (0),i64 (2),i64 (5),str [],i64 (0)],.rw [i64 (0),i64 (2),i64 (5),i64 (4),i64 (5)]]
def C3:FuncId→List AV→zaa→Option (AEnd × zaa):=xadd C2 73 A3 B3 X3 Y3
theorem rx3:xrun Tryz.prog TT ⟨C2,za5,1000⟩ 60 true 73 A3 B3=some (X3,Y3):=by kernel_rfl
theorem ox3:ClOK Tryz.prog C3:=za7 ox2 (zaA zcL rfl (S:=⟨C2,za5,1000⟩) ox2 rx3)
def A4:List AV:=[.ptr 0 0,i64 (0),i64 (1)]
def B4:zaa:=[.rw [.ref 1 0 5 4,.ref 2 0 5 1,i64 (0)],.rw [i64 (5),i64 (0),str [],i64 (1),i64 (3),i64 (0),str [97],i64 (0),i64 (4),i64 (0),str [],i64 (2),i64 (2),i64 (1),str [],i64 (0),i64 (2),i64 (5),str [],i64 (0)],.rw [i64 (0),i64 (0),i64 (0),i64 (0),i64 (0)]]
def X4:AEnd:=.ret (i64 (5))
def Y4:zaa:=[.rw [.ref 1 0 5 4,.ref 2 0 5 1,i64 (3)],.rw [i64 (5),i64 (0),str [],i64 (1),i64 (3),i64 (0),str [97],i64 (0),i64 (4),i64 (0),str [],i64 (2),i64 (2),i64 (1),str [],i64 (0),i64 (2),i64 (5),str [],i64 (0)],.rw [i64 (5),i64 (2),i64 (5),i64 (4),i64 (5)]]
def C4:FuncId→List AV→zaa→Option (AEnd × zaa):=xadd C3 73 A4 B4 X4 Y4
theorem rx4:xrun Tryz.prog TT ⟨C3,za5,1000⟩ 60 true 73 A4 B4=some (X4,Y4):=by kernel_rfl
theorem ox4:ClOK Tryz.prog C4:=za7 ox3 (zaA zcL rfl (S:=⟨C3,za5,1000⟩) ox3 rx4)
def A5:List AV:=[.ref 0 0 1 4]
def B5:zaa:=[.rw [i64 (2),i64 (3),str [],i64 (0)]]
def X5:AEnd:=.ret (i64 (0))
def Y5:zaa:=[.rw [i64 (2),i64 (3),str [],i64 (0)]]
def C5:FuncId→List AV→zaa→Option (AEnd × zaa):=xadd C4 18 A5 B5 X5 Y5
theorem rx5:xrun Tryz.prog TT ⟨C4,za5,1000⟩ 60 true 18 A5 B5=some (X5,Y5):=by kernel_rfl
theorem ox5:ClOK Tryz.prog C5:=za7 ox4 (zaA zcL rfl (S:=⟨C4,za5,1000⟩) ox4 rx5)
def A6:List AV:=[.agg [i64 (3),str [97],.ref 0 0 1 4,i64 (0)]]
def B6:zaa:=[.rw [i64 (2),i64 (3),str [],i64 (0)]]
def X6:AEnd:=.ret (bl true)
def Y6:zaa:=[.rw [i64 (2),i64 (3),str [],i64 (0)]]
def C6:FuncId→List AV→zaa→Option (AEnd × zaa):=xadd C5 68 A6 B6 X6 Y6
theorem rx6:xrun Tryz.prog TT ⟨C5,za5,1000⟩ 60 true 68 A6 B6=some (X6,Y6):=by kernel_rfl
theorem ox6:ClOK Tryz.prog C6:=za7 ox5 (zaA zcL rfl (S:=⟨C5,za5,1000⟩) ox5 rx6)
def A7:List AV:=[.ref 0 0 5 4,str [97]]
def B7:zaa:=[.rw [i64 (5),i64 (0),str [],i64 (1),i64 (3),i64 (0),str [97],i64 (0),i64 (4),i64 (0),str [],i64 (2),i64 (2),i64 (1),str [],i64 (0),i64 (2),i64 (5),str [],i64 (0)]]
def X7:AEnd:=.ret (.tup [.ref 1 0 1 2,i64 (0)])
def Y7:zaa:=[.rw [i64 (5),i64 (0),str [],i64 (1),i64 (3),i64 (0),str [97],i64 (0),i64 (4),i64 (0),str [],i64 (2),i64 (2),i64 (1),str [],i64 (0),i64 (2),i64 (5),str [],i64 (0)],.rw [str [97],i64 (-1)]]
def C7:FuncId→List AV→zaa→Option (AEnd × zaa):=xadd C6 50 A7 B7 X7 Y7
theorem rx7:xrun Tryz.prog TT ⟨C6,za5,1000⟩ 60 true 50 A7 B7=some (X7,Y7):=by kernel_rfl
theorem ox7:ClOK Tryz.prog C7:=za7 ox6 (zaA zcL rfl (S:=⟨C6,za5,1000⟩) ox6 rx7)
def A8:List AV:=[.ref 0 0 5 4,i64 (0)]
def B8:zaa:=[.rw [i64 (5),i64 (0),str [],i64 (1),i64 (3),i64 (0),str [97],i64 (0),i64 (4),i64 (0),str [],i64 (2),i64 (2),i64 (1),str [],i64 (0),i64 (2),i64 (5),str [],i64 (0)]]
def X8:AEnd:=.ret (.tup [.ref 1 0 5 1,bl true])
def Y8:zaa:=[.rw [i64 (5),i64 (0),str [],i64 (1),i64 (3),i64 (0),str [97],i64 (0),i64 (4),i64 (0),str [],i64 (2),i64 (2),i64 (1),str [],i64 (0),i64 (2),i64 (5),str [],i64 (0)],.rw [i64 (5),i64 (2),i64 (5),i64 (4),i64 (5)]]
def C8:FuncId→List AV→zaa→Option (AEnd × zaa):=xadd C7 48 A8 B8 X8 Y8
theorem rx8:xrun Tryz.prog TT ⟨C7,za5,1000⟩ 60 true 48 A8 B8=some (X8,Y8):=by kernel_rfl
theorem ox8:ClOK Tryz.prog C8:=za7 ox7 (zaA zcL rfl (S:=⟨C7,za5,1000⟩) ox7 rx8)
def A9:List AV:=[.ref 0 0 5 4,i64 (0),.agg [str [97],i64 (-1)]]
def B9:zaa:=[.rw [i64 (5),i64 (0),str [],i64 (1),i64 (3),i64 (0),str [97],i64 (0),i64 (4),i64 (0),str [],i64 (2),i64 (2),i64 (1),str [],i64 (0),i64 (2),i64 (5),str [],i64 (0)]]
def X9:AEnd:=.ret (.tup [i64 (2),bl true])
def Y9:zaa:=[.rw [i64 (5),i64 (0),str [],i64 (1),i64 (3),i64 (0),str [97],i64 (0),i64 (4),i64 (0),str [],i64 (2),i64 (2),i64 (1),str [],i64 (0),i64 (2),i64 (5),str [],i64 (0)]]
def C9:FuncId→List AV→zaa→Option (AEnd × zaa):=xadd C8 92 A9 B9 X9 Y9
theorem rx9:xrun Tryz.prog TT ⟨C8,za5,1000⟩ 60 true 92 A9 B9=some (X9,Y9):=by kernel_rfl
theorem ox9:ClOK Tryz.prog C9:=za7 ox8 (zaA zcL rfl (S:=⟨C8,za5,1000⟩) ox8 rx9)
def A10:List AV:=[.ref 0 0 5 4,i64 (2)]
def B10:zaa:=[.rw [i64 (5),i64 (0),str [],i64 (1),i64 (3),i64 (0),str [97],i64 (0),i64 (4),i64 (0),str [],i64 (2),i64 (2),i64 (1),str [],i64 (0),i64 (2),i64 (5),str [],i64 (0)]]
def X10:AEnd:=.ret (.tup [.ref 1 0 5 1,bl true])
def Y10:zaa:=[.rw [i64 (5),i64 (0),str [],i64 (1),i64 (3),i64 (0),str [97],i64 (0),i64 (4),i64 (0),str [],i64 (2),i64 (2),i64 (1),str [],i64 (0),i64 (2),i64 (5),str [],i64 (0)],.rw [i64 (5),i64 (2),i64 (5),i64 (4),i64 (5)]]
def C10:FuncId→List AV→zaa→Option (AEnd × zaa):=xadd C9 48 A10 B10 X10 Y10
theorem rx10:xrun Tryz.prog TT ⟨C9,za5,1000⟩ 60 true 48 A10 B10=some (X10,Y10):=by kernel_rfl
theorem ox10:ClOK Tryz.prog C10:=za7 ox9 (zaA zcL rfl (S:=⟨C9,za5,1000⟩) ox9 rx10)
def A11:List AV:=[.ptr 0 0,i64 (0),i64 (1)]
def B11:zaa:=[.rw [.ref 1 0 3 4,.ref 2 0 3 1,i64 (0)],.rw [i64 (4),i64 (0),str [],i64 (2),i64 (2),i64 (1),str [],i64 (0),i64 (2),i64 (5),str [],i64 (0)],.rw [i64 (0),i64 (0),i64 (0)]]
def X11:AEnd:=.ret (i64 (3))
def Y11:zaa:=[.rw [.ref 1 0 3 4,.ref 2 0 3 1,i64 (2)],.rw [i64 (4),i64 (0),str [],i64 (2),i64 (2),i64 (1),str [],i64 (0),i64 (2),i64 (5),str [],i64 (0)],.rw [i64 (3),i64 (2),i64 (3)]]
def C11:FuncId→List AV→zaa→Option (AEnd × zaa):=xadd C10 73 A11 B11 X11 Y11
theorem rx11:xrun Tryz.prog TT ⟨C10,za5,1000⟩ 60 true 73 A11 B11=some (X11,Y11):=by kernel_rfl
theorem ox11:ClOK Tryz.prog C11:=za7 ox10 (zaA zcL rfl (S:=⟨C10,za5,1000⟩) ox10 rx11)
def A12:List AV:=[.ref 0 0 3 4,i64 (0)]
def B12:zaa:=[.rw [i64 (4),i64 (0),str [],i64 (2),i64 (2),i64 (1),str [],i64 (0),i64 (2),i64 (5),str [],i64 (0)]]
def X12:AEnd:=.ret (.ref 1 0 2 1)
def Y12:zaa:=[.rw [i64 (4),i64 (0),str [],i64 (2),i64 (2),i64 (1),str [],i64 (0),i64 (2),i64 (5),str [],i64 (0)],.rw [i64 (1),i64 (2)]]
def C12:FuncId→List AV→zaa→Option (AEnd × zaa):=xadd C11 100 A12 B12 X12 Y12
theorem rx12:xrun Tryz.prog TT ⟨C11,za5,1000⟩ 60 true 100 A12 B12=some (X12,Y12):=by kernel_rfl
theorem ox12:ClOK Tryz.prog C12:=za7 ox11 (zaA zcL rfl (S:=⟨C11,za5,1000⟩) ox11 rx12)
def A13:List AV:=[.ref 0 0 3 4]
def B13:zaa:=[.rw [i64 (4),i64 (0),str [],i64 (2),i64 (2),i64 (1),str [],i64 (0),i64 (2),i64 (5),str [],i64 (0)]]
def X13:AEnd:=.ret (.ref 1 0 2 1)
def Y13:zaa:=[.rw [i64 (4),i64 (0),str [],i64 (2),i64 (2),i64 (1),str [],i64 (0),i64 (2),i64 (5),str [],i64 (0)],.rw [.ref 2 0 1 4,.ref 3 0 1 4],.rw [i64 (2),i64 (1),str [],i64 (0)],.rw [i64 (2),i64 (5),str [],i64 (0)]]
def C13:FuncId→List AV→zaa→Option (AEnd × zaa):=xadd C12 183 A13 B13 X13 Y13
theorem rx13:xrun Tryz.prog TT ⟨C12,za5,1000⟩ 60 true 183 A13 B13=some (X13,Y13):=by kernel_rfl
theorem ox13:ClOK Tryz.prog C13:=za7 ox12 (zaA zcL rfl (S:=⟨C12,za5,1000⟩) ox12 rx13)
def A14:List AV:=[.ref 0 0 5 4,str [97]]
def B14:zaa:=[.rw [i64 (5),i64 (0),str [],i64 (1),i64 (3),i64 (0),str [97],i64 (0),i64 (4),i64 (0),str [],i64 (2),i64 (2),i64 (1),str [],i64 (0),i64 (2),i64 (5),str [],i64 (0)]]
def X14:AEnd:=.ret (.tup [.ref 1 0 2 1,i64 (0)])
def Y14:zaa:=[.rw [i64 (5),i64 (0),str [],i64 (1),i64 (3),i64 (0),str [97],i64 (0),i64 (4),i64 (0),str [],i64 (2),i64 (2),i64 (1),str [],i64 (0),i64 (2),i64 (5),str [],i64 (0)],.rw [.ref 2 0 1 4,.ref 3 0 1 4],.rw [i64 (2),i64 (1),str [],i64 (0)],.rw [i64 (2),i64 (5),str [],i64 (0)]]
def C14:FuncId→List AV→zaa→Option (AEnd × zaa):=xadd C13 147 A14 B14 X14 Y14
theorem rx14:xrun Tryz.prog TT ⟨C13,za5,1000⟩ 60 true 147 A14 B14=some (X14,Y14):=by kernel_rfl
theorem ox14:ClOK Tryz.prog C14:=za7 ox13 (zaA zcL rfl (S:=⟨C13,za5,1000⟩) ox13 rx14)
def A15:List AV:=[.ptr 0 0,i64 (0)]
def B15:zaa:=[.rw [.ref 1 0 1 4,.ref 3 0 5 4,.fn (.func 56) [.ptr 0 0] [],.fn (.func 57) [.ptr 0 0] [],.fn (.func 58) [.ptr 0 0] [],.fn (.func 59) [.ptr 0 0] [],.fn (.func 60) [.ptr 0 0] [],.fn (.func 61) [.ptr 0 0] [],.fn (.func 62) [.ptr 0 0] [],.fn (.func 63) [.ptr 0 0] []],.rw [i64 (3),str [97],.ref 2 0 1 4,i64 (0)],.rw [i64 (2),i64 (3),str [],i64 (0)],.rw [i64 (5),i64 (0),str [],i64 (1),i64 (3),i64 (0),str [97],i64 (0),i64 (4),i64 (0),str [],i64 (2),i64 (2),i64 (1),str [],i64 (0),i64 (2),i64 (5),str [],i64 (0)]]
def X15:AEnd:=.ret (.ref 4 0 3 1)
def Y15:zaa:=[.rw [.ref 1 0 1 4,.ref 3 0 5 4,.fn (.func 56) [.ptr 0 0] [],.fn (.func 57) [.ptr 0 0] [],.fn (.func 58) [.ptr 0 0] [],.fn (.func 59) [.ptr 0 0] [],.fn (.func 60) [.ptr 0 0] [],.fn (.func 61) [.ptr 0 0] [],.fn (.func 62) [.ptr 0 0] [],.fn (.func 63) [.ptr 0 0] []],.rw [i64 (3),str [97],.ref 2 0 1 4,i64 (0)],.rw [i64 (2),i64 (3),str [],i64 (0)],.rw [i64 (5),i64 (0),str [],i64 (1),i64 (3),i64 (0),str [97],i64 (0),i64 (4),i64 (0),str [],i64 (2),i64 (2),i64 (1),str [],i64 (0),i64 (2),i64 (5),str [],i64 (0)],.rw [.ref 5 0 3 4,.ref 6 0 1 4,.ref 7 0 1 4],.rw [i64 (4),i64 (0),str [],i64 (2),i64 (2),i64 (1),str [],i64 (0),i64 (2),i64 (5),str [],i64 (0)],.rw [i64 (2),i64 (1),str [],i64 (0)],.rw [i64 (2),i64 (5),str [],i64 (0)]]
def C15:FuncId→List AV→zaa→Option (AEnd × zaa):=xadd C14 97 A15 B15 X15 Y15
theorem rx15:xrun Tryz.prog TT ⟨C14,za5,1000⟩ 60 true 97 A15 B15=some (X15,Y15):=by kernel_rfl
theorem ox15:ClOK Tryz.prog C15:=za7 ox14 (zaA zcL rfl (S:=⟨C14,za5,1000⟩) ox14 rx15)
def A16:List AV:=[.ref 0 0 1 4]
def B16:zaa:=[.rw [i64 (2),i64 (1),str [],i64 (0)]]
def X16:AEnd:=.ret (i64 (0))
def Y16:zaa:=[.rw [i64 (2),i64 (1),str [],i64 (0)]]
def C16:FuncId→List AV→zaa→Option (AEnd × zaa):=xadd C15 18 A16 B16 X16 Y16
theorem rx16:xrun Tryz.prog TT ⟨C15,za5,1000⟩ 60 true 18 A16 B16=some (X16,Y16):=by kernel_rfl
theorem ox16:ClOK Tryz.prog C16:=za7 ox15 (zaA zcL rfl (S:=⟨C15,za5,1000⟩) ox15 rx16)
def A17:List AV:=[.ref 0 0 1 4,.ref 1 0 1 4]
def B17:zaa:=[.rw [i64 (2),i64 (1),str [],i64 (0)],.rw [i64 (2),i64 (3),str [],i64 (0)]]
def X17:AEnd:=.ret (i64 (-1))
def Y17:zaa:=[.rw [i64 (2),i64 (1),str [],i64 (0)],.rw [i64 (2),i64 (3),str [],i64 (0)]]
def C17:FuncId→List AV→zaa→Option (AEnd × zaa):=xadd C16 130 A17 B17 X17 Y17
theorem rx17:xrun Tryz.prog TT ⟨C16,za5,1000⟩ 60 true 130 A17 B17=some (X17,Y17):=by kernel_rfl
theorem ox17:ClOK Tryz.prog C17:=za7 ox16 (zaA zcL rfl (S:=⟨C16,za5,1000⟩) ox16 rx17)
def A18:List AV:=[.ref 0 0 1 4,.ref 2 0 5 4]
def B18:zaa:=[.rw [i64 (3),str [97],.ref 1 0 1 4,i64 (0)],.rw [i64 (2),i64 (3),str [],i64 (0)],.rw [i64 (5),i64 (0),str [],i64 (1),i64 (3),i64 (0),str [97],i64 (0),i64 (4),i64 (0),str [],i64 (2),i64 (2),i64 (1),str [],i64 (0),i64 (2),i64 (5),str [],i64 (0)]]
def X18:AEnd:=.ret (.tup [bl true,i64 (0)])
def Y18:zaa:=[.rw [i64 (3),str [97],.ref 1 0 1 4,i64 (0)],.rw [i64 (2),i64 (3),str [],i64 (0)],.rw [i64 (5),i64 (0),str [],i64 (1),i64 (3),i64 (0),str [97],i64 (0),i64 (4),i64 (0),str [],i64 (2),i64 (2),i64 (1),str [],i64 (0),i64 (2),i64 (5),str [],i64 (0)]]
def C18:FuncId→List AV→zaa→Option (AEnd × zaa):=xadd C17 10 A18 B18 X18 Y18
theorem rx18:xrun Tryz.prog TT ⟨C17,za5,1000⟩ 60 true 10 A18 B18=some (X18,Y18):=by kernel_rfl
theorem ox18:ClOK Tryz.prog C18:=za7 ox17 (zaA zcL rfl (S:=⟨C17,za5,1000⟩) ox17 rx18)
def A19:List AV:=[.ref 0 0 2 4]
def B19:zaa:=[.rw [i64 (7),str [],.lit (.slice none 0 0),i64 (1),i64 (3),str [97],.ref 1 0 1 4,i64 (0)],.rw [i64 (2),i64 (3),str [],i64 (0)]]
def X19:AEnd:=.ret (.tup [.ref 2 0 2 1,bl true])
def Y19:zaa:=[.rw [i64 (7),str [],.lit (.slice none 0 0),i64 (1),i64 (3),str [97],.ref 1 0 1 4,i64 (0)],.rw [i64 (2),i64 (3),str [],i64 (0)],.rw [i64 (2),i64 (2)]]
def C19:FuncId→List AV→zaa→Option (AEnd × zaa):=xadd C18 35 A19 B19 X19 Y19
theorem rx19:xrun Tryz.prog TT ⟨C18,za5,1000⟩ 60 true 35 A19 B19=some (X19,Y19):=by kernel_rfl
theorem ox19:ClOK Tryz.prog C19:=za7 ox18 (zaA zcL rfl (S:=⟨C18,za5,1000⟩) ox18 rx19)
def A20:List AV:=[str [49,93]]
def B20:zaa:=[]
def X20:AEnd:=.ret (.tup [.agg [str [],i64 (1)],str [],bl true])
def Y20:zaa:=[]
def C20:FuncId→List AV→zaa→Option (AEnd × zaa):=xadd C19 167 A20 B20 X20 Y20
theorem rx20:xrun Tryz.prog TT ⟨C19,za5,1000⟩ 60 true 167 A20 B20=some (X20,Y20):=by kernel_rfl
theorem ox20:ClOK Tryz.prog C20:=za7 ox19 (zaA zcL rfl (S:=⟨C19,za5,1000⟩) ox19 rx20)
def A21:List AV:=[str [97,91,49,93]]
def B21:zaa:=[]
def X21:AEnd:=.ret (.tup [.ref 0 0 2 2,i64 (0)])
def Y21:zaa:=[.rw [str [97],i64 (-1),str [],i64 (1)]]
def C21:FuncId→List AV→zaa→Option (AEnd × zaa):=xadd C20 90 A21 B21 X21 Y21
theorem rx21:xrun Tryz.prog TT ⟨C20,za5,1000⟩ 60 true 90 A21 B21=some (X21,Y21):=by kernel_rfl
theorem ox21:ClOK Tryz.prog C21:=za7 ox20 (zaA zcL rfl (S:=⟨C20,za5,1000⟩) ox20 rx21)
def A22:List AV:=[.ref 0 0 2 1]
def B22:zaa:=[.rw [str [97,91,49,93],str [98]]]
def X22:AEnd:=.ret (bl true)
def Y22:zaa:=[.rw [str [97,91,49,93],str [98]]]
def C22:FuncId→List AV→zaa→Option (AEnd × zaa):=xadd C21 45 A22 B22 X22 Y22
theorem rx22:xrun Tryz.prog TT ⟨C21,za5,1000⟩ 60 true 45 A22 B22=some (X22,Y22):=by kernel_rfl
theorem ox22:ClOK Tryz.prog C22:=za7 ox21 (zaA zcL rfl (S:=⟨C21,za5,1000⟩) ox21 rx22)
def A23:List AV:=[.ptr 0 0,i64 (0),i64 (1)]
def B23:zaa:=[.rw [.ref 1 0 3 4,.ref 2 0 3 1,i64 (0)],.rw [i64 (5),i64 (0),str [],i64 (1),i64 (3),i64 (0),str [97,91,49,93],i64 (0),i64 (2),i64 (5),str [],i64 (0)],.rw [i64 (0),i64 (0),i64 (0)]]
def X23:AEnd:=.ret (i64 (3))
def Y23:zaa:=[.rw [.ref 1 0 3 4,.ref 2 0 3 1,i64 (2)],.rw [i64 (5),i64 (0),str [],i64 (1),i64 (3),i64 (0),str [97,91,49,93],i64 (0),i64 (2),i64 (5),str [],i64 (0)],.rw [i64 (3),i64 (2),i64 (3)]]
def C23:FuncId→List AV→zaa→Option (AEnd × zaa):=xadd C22 73 A23 B23 X23 Y23
theorem rx23:xrun Tryz.prog TT ⟨C22,za5,1000⟩ 60 true 73 A23 B23=some (X23,Y23):=by kernel_rfl
theorem ox23:ClOK Tryz.prog C23:=za7 ox22 (zaA zcL rfl (S:=⟨C22,za5,1000⟩) ox22 rx23)
def A24:List AV:=[.ref 0 0 5 4,.ref 1 0 2 1]
def B24:zaa:=[.rw [i64 (5),i64 (0),str [],i64 (1),i64 (3),i64 (0),str [97],i64 (0),i64 (4),i64 (0),str [],i64 (2),i64 (2),i64 (1),str [],i64 (0),i64 (2),i64 (5),str [],i64 (0)],.rw [str [97,91,49,93],str [98]]]
def X24:AEnd:=.ret (.tup [.ref 2 0 3 4,i64 (0)])
def Y24:zaa:=[.rw [i64 (5),i64 (0),str [],i64 (1),i64 (3),i64 (0),str [97],i64 (0),i64 (4),i64 (0),str [],i64 (2),i64 (2),i64 (1),str [],i64 (0),i64 (2),i64 (5),str [],i64 (0)],.rw [str [97,91,49,93],str [98]],.rw [i64 (5),i64 (0),str [],i64 (1),i64 (3),i64 (0),str [97,91,49,93],i64 (0),i64 (2),i64 (5),str [],i64 (0)]]
def C24:FuncId→List AV→zaa→Option (AEnd × zaa):=xadd C23 23 A24 B24 X24 Y24
theorem rx24:xrun Tryz.prog TT ⟨C23,za5,1000⟩ 60 true 23 A24 B24=some (X24,Y24):=by kernel_rfl
theorem ox24:ClOK Tryz.prog C24:=za7 ox23 (zaA zcL rfl (S:=⟨C23,za5,1000⟩) ox23 rx24)
def A25:List AV:=[.agg [.ref 0 0 1 4,str [],bl false,.ref 2 0 2 1,i64 (1)],.ref 3 0 2 2]
def B25:zaa:=[.rw [i64 (3),str [97],.ref 1 0 1 4,i64 (0)],.rw [i64 (2),i64 (3),str [],i64 (0)],.rw [str [97,91,49,93],str [98]],.rw [str [121],.ref 4 0 5 4,str [120],.ref 4 0 5 4],.rw [i64 (5),i64 (0),str [],i64 (1),i64 (3),i64 (0),str [97],i64 (0),i64 (4),i64 (0),str [],i64 (2),i64 (2),i64 (1),str [],i64 (0),i64 (2),i64 (5),str [],i64 (0)]]
def X25:AEnd:=.ret (.tup [.ref 5 0 1 2,i64 (0)])
def Y25:zaa:=[.rw [i64 (3),str [97],.ref 1 0 1 4,i64 (0)],.rw [i64 (2),i64 (3),str [],i64 (0)],.rw [str [97,91,49,93],str [98]],.rw [str [121],.ref 4 0 5 4,str [120],.ref 4 0 5 4],.rw [i64 (5),i64 (0),str [],i64 (1),i64 (3),i64 (0),str [97],i64 (0),i64 (4),i64 (0),str [],i64 (2),i64 (2),i64 (1),str [],i64 (0),i64 (2),i64 (5),str [],i64 (0)],.rw [str [120],.ref 6 0 3 4],.rw [i64 (5),i64 (0),str [],i64 (1),i64 (3),i64 (0),str [97,91,49,93],i64 (0),i64 (2),i64 (5),str [],i64 (0)]]
def C25:FuncId→List AV→zaa→Option (AEnd × zaa):=xadd C24 21 A25 B25 X25 Y25
theorem rx25:xrun Tryz.prog TT ⟨C24,za5,1000⟩ 60 true 21 A25 B25=some (X25,Y25):=by kernel_rfl
theorem ox25:ClOK Tryz.prog C25:=za7 ox24 (zaA zcL rfl (S:=⟨C24,za5,1000⟩) ox24 rx25)
def A26:List AV:=[.ptr 0 0,.lit (.int .u8 (125)),.fn (.func 211) [] [.ptr 1 0,.ptr 2 0,.ptr 4 0]]
def B26:zaa:=[.rw [str [123,34,97,91,49,93,34,58,53,125],i64 (0),i64 (-1)],.rw [.ptr 0 0],.rw [.mpt 3],.mpb [] [],.rw [.lit (.slice none 0 0)]]
def X26:AEnd:=.ret (.tup [])
def Y26:zaa:=[.rw [str [123,34,97,91,49,93,34,58,53,125],i64 (10),i64 (-1)],.rw [.ptr 0 0],.rw [.mpt 3],.mpb [.string ⟨#[97,91,49,93]⟩] [i64 (1)],.rw [.ref 5 0 1 2],.rw [str [97,91,49,93],.ref 6 0 1 4],.rw [i64 (2),i64 (5),str [],i64 (0)]]
def C26:FuncId→List AV→zaa→Option (AEnd × zaa):=xadd C25 209 A26 B26 X26 Y26
theorem rx26:xrun Tryz.prog TT ⟨C25,za5,1000⟩ 60 true 209 A26 B26=some (X26,Y26):=by kernel_rfl
theorem ox26:ClOK Tryz.prog C26:=za7 ox25 (zaA zcL rfl (S:=⟨C25,za5,1000⟩) ox25 rx26)
def A27:List AV:=[]
def B27:zaa:=[]
def X27:AEnd:=.ret (bl true)
def Y27:zaa:=[]
theorem rx27:xrun Tryz.prog TT ⟨C26,za5,1000⟩ 60 true 7 A27 B27=some (X27,Y27):=by kernel_rfl
end Go.Proofs.YtdigkoejfgmecaaGreatDoor
end

