/- FnFns -/
import Derived.Test.YtddkjkockbcamaaGreatDoorHw03
import Derived.Deep.CutBlock
import Derived.Deep.QuietTactic
import Derived.BigQuiet
set_option maxHeartbeats 16000000
set_option maxRecDepth 100000
namespace Go.Proofs.YtddkjkockbcamaaGreatDoor
open Go.RowKit
theorem sy {c:UInt8}{l:List UInt8}{k:Nat}(h:Hid (k+Fn.run c (l.drop k)=Fn.run c l)) (h0:Fn.run c (l.drop k)=0):k=Fn.run c l:=by
 have:=h.out;omega
theorem LG (l:List UInt8) (c:UInt8) (w:World) (hl:l.length≤140737488355328) :
  Calls Tryz.prog 150 #[.string (bs l),.int .u8 (c.toNat:Int)] w fun e w'=>e=.returned (.int .i64 (Fn.run c l:Nat))∧w=w':=by
 have hsz:=au l;go_enter Tryz.func150,Tryz.ntmps150;go_wp2_with fail
 go_loop [5] (fun u=>∃ k:Nat,k≤l.length∧u=.int .i64 k∧Hid (k+Fn.run c (l.drop k)=Fn.run c l)) (fun u=>l.length-(intOf u).toNat)
 case atStart=>exact ⟨0,by omega,rfl,Lib.hid (by simp)⟩
 case round =>
  obtain ⟨k,hk,rfl,hf⟩:=hrel;rcases Nat.lt_or_eq_of_le hk with hlt | rfl
  ·have hx:=bG hlt w
   by_cases hc:l[k]=c
   ·have ht:=jK hc
    have hf2:Hid (k+1+Fn.run c (l.drop (k+1))=Fn.run c l):=Lib.hid (by have:=hf.out;rw [Fn.jS hlt hc] at this;omega);clear hc;go_wp2
    go_round
    case rel=>exact ⟨k+1,by omega,by go_num,hf2⟩
    case measure=>simp [intOf];omega
   ·have ht:=gz hc
    have aP:=Lib.hid (sy hf (Fn.qM hlt hc));clear hc;go_wp2;go_returns;exact ⟨by rw [← aP.out];rfl,rfl⟩
  ·have aP:=Lib.hid (sy hf (Fn.jF (by omega)))
   go_wp2;go_returns;exact ⟨by rw [← aP.out];rfl,rfl⟩
theorem Cg (l:List UInt8) (w:World) (hl:l.length≤140737488355328) :
  Calls Tryz.prog 149 #[.string (bs l)] w fun e w'=>e=.returned (.tuple #[.int .i64 (Fn.cl l:Nat),.string (bs (Fn.rs l)),.bool (decide ((Fn.cl l:Int)≤3))])∧Below w.heap.size w w':=by
 have hle:=Cl.sF Cl.inf l 0;have hi:=fun w=>mE l w hl;have hcl:Fn.cl l=(Cl.lead Cl.inf l 0).1:=rfl;have ED:Fn.rs l=l.drop (Cl.lead Cl.inf l 0).2:=rfl;rw [hcl,ED];clear hcl ED;obtain ⟨C,K,Ub⟩:∃ C K,Cl.lead Cl.inf l 0=(C,K):=⟨_,_,rfl⟩
 rw [Ub] at hle hi;rw [Ub];simp only at hle hi ⊢;clear Ub;have qm:=cB (S:=l) (i:=K) (by omega);go_enter Tryz.func149,Tryz.ntmps149;go_wp2_with (go_at_call 181;refine (hi _).mono ?_;rintro e w' ⟨rfl,rfl⟩);go_quiet (fail);go_wp2;go_ret3;exact ⟨rfl,below_drewN (Below.refl _ _) _⟩
end Go.Proofs.YtddkjkockbcamaaGreatDoor
