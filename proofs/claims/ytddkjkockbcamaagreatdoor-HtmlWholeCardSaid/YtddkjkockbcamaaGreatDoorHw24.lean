/- ClStrip -/
import Derived.Test.YtddkjkockbcamaaGreatDoorHw11
import Derived.Test.YtddkjkockbcamaaGreatDoorHw22
import Derived.Deep.CutBlock
import Derived.Deep.DeepCutAuto
set_option maxHeartbeats 16000000
set_option maxRecDepth 100000
namespace Go.Proofs.YtddkjkockbcamaaGreatDoor
open Go.RowKit
theorem lM (a b:List UInt8):ai (a++b)=ai a++ai b:=by simp [ai]
theorem I3 (w:World) (o:Obj):Below w.heap.size w (w.alloc o):=(Below.refl _ w).alloc (Nat.le_refl _) _
theorem DV (w:World):k9 w.heap.size w.heap.size (ai []) (w.alloc (.cells #[.pointer none,.slice none 0 0] 54)) :=
 Lib.IsBuilderF.of (Lib.fresh_isBuilder 54 5 w)
theorem qA (B b:Nat) (l:List UInt8) (w:World) (h:k9 B b (ai l) w) (hBw:B≤w.heap.size) :
  Calls Tryz.prog 27 #[.pointer (some ⟨b,0,none⟩)] w fun e w'=>e=.returned (.string (bs l))∧Below B w w' :=
 (Tryz.Builder_String_any_k B b l w h hBw).mono fun _ _ ⟨he,_,hb,_⟩=>⟨he,hb⟩
theorem CB (j:Nat):ai (List.replicate j 32)++[.int .u8 32]=ai (List.replicate (j+1) 32):=by
 rw [List.replicate_succ',lM];rfl
theorem p8 (l:List UInt8) (n:Int) (w:World) (hl:l.length+3≤140737488355328) :
  Calls Tryz.prog 118 #[.string (bs l),.int .i64 n] w fun e w'=>e=.returned (.string (bs (Cl.strip n l)))∧Below w.heap.size w w':=by
 obtain ⟨N,hN,hmx,hls⟩:∃ N:Nat,n.toNat=N∧max n 0=(N:Int)∧Cl.lead n l 0=Cl.lead (N:Int) l 0:=by
  refine ⟨n.toNat,rfl,by omega,?_⟩
  by_cases h:n≤0
  ·rw [Cl.xS l h,Cl.xS l (by omega)]
  ·rw [Int.toNat_of_nonneg (by omega)]
 have hle:=Cl.sF (N:Int) l 0;have hpa:=Cl.BN (N:Int) l 0 (by omega);have hfs:=Lib.hid (fun j=>@E7 n l j);rw [hls,hN] at hfs;obtain ⟨C,K,Ub⟩:∃ C K,Cl.lead (N:Int) l 0=(C,K):=⟨_,_,rfl⟩
 have Rx:=fun w=>xu l (N:Int) w (by omega);rw [Ub] at hle hpa hfs Rx;simp only at hle hpa hfs Rx;have qm:=cB (S:=l) (i:=K) (by omega);clear hls Ub;go_enter Tryz.func118,Tryz.ntmps118;go_wp2_with (go_at_call 151;refine (Rx _).mono ?_;rintro e w' ⟨rfl,rfl⟩)
 go_loopw [5] (fun v wr=>∃ c j:Nat,c+j=C∧j≤C-N∧v=.int .i64 c∧k9 w.heap.size w.heap.size (ai (List.replicate j 32)) wr∧Below w.heap.size w wr) (fun v _=>(intOf v).toNat)
 case atStart=>exact ⟨C,0,rfl,by omega,rfl,DV w,I3 _ _⟩
 case round =>
  obtain ⟨c,j,Pd,hjN,rfl,hI,hb⟩:=hrel;have hz:=hb.size;have hrl:(ai (List.replicate j 32)).length=j:=by simp [ai]
  by_cases hgo:N<c
  ·have hn:=fun wz (h:k9 w.heap.size w.heap.size (ai (List.replicate j 32)++[.int .u8 32]) wz)=>(by rw [← CB];exact h:k9 w.heap.size w.heap.size (ai (List.replicate (j+1) 32)) wz)
   replace hn:=Lib.hid hn;go_wp2_with (go_at_call 152;refine (qz w.heap.size w.heap.size _ 32 _ hI (by omega) hz).mono ?_;rintro e w2 ⟨rfl,h1,b1,k1⟩)
   go_roundw
   case rel=>exact ⟨c-1,j+1,by omega,by omega,by go_num,hn.out _ h1,hb.trans b1⟩
   case measure=>simp [intOf];omega
  ·have hj:j=C-N:=by omega
   replace hfs:=Lib.hid (hfs.out j hj);have aP:=fun wz (h:k9 w.heap.size w.heap.size (ai (List.replicate j 32)++ai (l.drop K)) wz)=>(by rw [← hfs.out,lM];exact h:k9 w.heap.size w.heap.size (ai (Cl.strip n l)) wz)
   replace aP:=Lib.hid aP;have hdl:(l.drop K).length=l.length-K:=List.length_drop ..;go_wp2_with (first | (go_at_call 98;refine (cI w.heap.size w.heap.size _ (l.drop K) _ hI (by omega) hz).mono ?_;rintro e w2 ⟨⟨v,rfl⟩,h1,b1,k1⟩;replace h1:=Lib.hid (aP.out _ h1);have hz2:=Nat.le_trans hz b1.size) | (go_at_call 27;refine (qA w.heap.size w.heap.size _ _ h1.out (by omega)).mono ?_;rintro e w3 ⟨rfl,b2⟩));go_ret;exact ⟨rfl,(hb.trans b1).trans b2⟩
end Go.Proofs.YtddkjkockbcamaaGreatDoor
