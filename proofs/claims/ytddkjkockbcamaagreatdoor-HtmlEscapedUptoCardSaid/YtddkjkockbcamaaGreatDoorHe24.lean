/- ClStrip -/
import Derived.Test.YtddkjkockbcamaaGreatDoorHe11
import Derived.Test.YtddkjkockbcamaaGreatDoorHe22
import Derived.Deep.CutBlock
import Derived.Deep.DeepCutAuto
set_option maxHeartbeats 16000000
set_option maxRecDepth 100000
namespace Go.Proofs.YtddkjkockbcamaaGreatDoor
open Go.RowKit
theorem kE (a b:List UInt8):aj (a++b)=aj a++aj b:=by simp [aj]
theorem Gh (w:World) (o:Obj):Below w.heap.size w (w.alloc o):=(Below.refl _ w).alloc (Nat.le_refl _) _
theorem Ag (w:World):jZ w.heap.size w.heap.size (aj []) (w.alloc (.cells #[.pointer none,.slice none 0 0] 54)) :=
 Lib.IsBuilderF.of (Lib.fresh_isBuilder 54 5 w)
theorem oB (B b:Nat) (l:List UInt8) (w:World) (h:jZ B b (aj l) w) (hBw:B≤w.heap.size) :
  Calls Tryz.prog 27 #[.pointer (some ⟨b,0,none⟩)] w fun e w'=>e=.returned (.string (bs l))∧Below B w w' :=
 (Tryz.Builder_String_any_k B b l w h hBw).mono fun _ _ ⟨he,_,hb,_⟩=>⟨he,hb⟩
theorem BN (j:Nat):aj (List.replicate j 32)++[.int .u8 32]=aj (List.replicate (j+1) 32):=by
 rw [List.replicate_succ',kE];rfl
theorem n8 (l:List UInt8) (n:Int) (w:World) (hl:l.length+3≤140737488355328) :
  Calls Tryz.prog 118 #[.string (bs l),.int .i64 n] w fun e w'=>e=.returned (.string (bs (Cl.strip n l)))∧Below w.heap.size w w':=by
 obtain ⟨N,hN,hmx,hls⟩:∃ N:Nat,n.toNat=N∧max n 0=(N:Int)∧Cl.lead n l 0=Cl.lead (N:Int) l 0:=by
  refine ⟨n.toNat,rfl,by omega,?_⟩
  by_cases h:n≤0
  ·rw [Cl.wH l h,Cl.wH l (by omega)]
  ·rw [Int.toNat_of_nonneg (by omega)]
 have hle:=Cl.qC (N:Int) l 0;have hpa:=Cl.ze (N:Int) l 0 (by omega);have hfs:=Lib.hid (fun j=>@CM n l j);rw [hls,hN] at hfs;obtain ⟨C,K,Qk⟩:∃ C K,Cl.lead (N:Int) l 0=(C,K):=⟨_,_,rfl⟩
 have OL:=fun w=>wO l (N:Int) w (by omega);rw [Qk] at hle hpa hfs OL;simp only at hle hpa hfs OL;have pE:=b8 (S:=l) (i:=K) (by omega);clear hls Qk;go_enter Tryz.func118,Tryz.ntmps118;go_wp2_with (go_at_call 151;refine (OL _).mono ?_;rintro e w' ⟨rfl,rfl⟩)
 go_loopw [5] (fun v wr=>∃ c j:Nat,c+j=C∧j≤C-N∧v=.int .i64 c∧jZ w.heap.size w.heap.size (aj (List.replicate j 32)) wr∧Below w.heap.size w wr) (fun v _=>(intOf v).toNat)
 case atStart=>exact ⟨C,0,rfl,by omega,rfl,Ag w,Gh _ _⟩
 case round =>
  obtain ⟨c,j,LR,hjN,rfl,hI,hb⟩:=hrel;have hz:=hb.size;have hrl:(aj (List.replicate j 32)).length=j:=by simp [aj]
  by_cases hgo:N<c
  ·have hn:=fun wz (h:jZ w.heap.size w.heap.size (aj (List.replicate j 32)++[.int .u8 32]) wz)=>(by rw [← BN];exact h:jZ w.heap.size w.heap.size (aj (List.replicate (j+1) 32)) wz)
   replace hn:=Lib.hid hn;go_wp2_with (go_at_call 152;refine (oL w.heap.size w.heap.size _ 32 _ hI (by omega) hz).mono ?_;rintro e w2 ⟨rfl,h1,b1,k1⟩)
   go_roundw
   case rel=>exact ⟨c-1,j+1,by omega,by omega,by go_num,hn.out _ h1,hb.trans b1⟩
   case measure=>simp [intOf];omega
  ·have hj:j=C-N:=by omega
   replace hfs:=Lib.hid (hfs.out j hj);have aL:=fun wz (h:jZ w.heap.size w.heap.size (aj (List.replicate j 32)++aj (l.drop K)) wz)=>(by rw [← hfs.out,kE];exact h:jZ w.heap.size w.heap.size (aj (Cl.strip n l)) wz)
   replace aL:=Lib.hid aL;have hdl:(l.drop K).length=l.length-K:=List.length_drop ..;go_wp2_with (first | (go_at_call 98;refine (cx w.heap.size w.heap.size _ (l.drop K) _ hI (by omega) hz).mono ?_;rintro e w2 ⟨⟨v,rfl⟩,h1,b1,k1⟩;replace h1:=Lib.hid (aL.out _ h1);have hz2:=Nat.le_trans hz b1.size) | (go_at_call 27;refine (oB w.heap.size w.heap.size _ _ h1.out (by omega)).mono ?_;rintro e w3 ⟨rfl,b2⟩));go_ret;exact ⟨rfl,(hb.trans b1).trans b2⟩
end Go.Proofs.YtddkjkockbcamaaGreatDoor
