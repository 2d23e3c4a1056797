/- HmKnown -/
import Derived.Test.YtddkjkockbcamaaGreatDoorHe36
import Derived.Test.YtddkjkockbcamaaGreatDoorHe31
import Derived.Lib.SlBytesConst
set_option maxHeartbeats 16000000
set_option maxRecDepth 100000
namespace Go.Proofs.YtddkjkockbcamaaGreatDoor
open Go.RowKit
attribute [local go_sem] aD av aq
def oZ:List UInt8:=[35,32,97,32,60,98,62,10,62,32,45,32,42,99,42,10,10,126,126,126,32,120,10,60,100,62,10,126,126,126,10,45,45,45,10,91,101,93,40,106,97,118,97,115,99,114,105,112,116,58,102,41,32,91,103,93,40,104,34,105,41,10]
def hk2:List UInt8:=[60,104,49,62,97,32,38,108,116,59,98,38,103,116,59,60,47,104,49,62,10,60,98,108,111,99,107,113,117,111,116,101,62,10,60,117,108,62,10,60,108,105,62,10,60,112,62,60,101,109,62,99,60,47,101,109,62,60,47,112,62,10,60,47,108,105,62,10,60,47,117,108,62,10,60,47,98,108,111,99,107,113,117,111,116,101,62,10,60,112,114,101,62,60,99,111,100,101,62,38,108,116,59,100,38,103,116,59,10,60,47,99,111,100,101,62,60,47,112,114,101,62,10,60,104,114,32,47,62,10,60,112,62,60,97,32,104,114,101,102,61,34,35,34,62,101,60,47,97,62,32,60,97,32,104,114,101,102,61,34,104,38,113,117,111,116,59,105,34,62,103,60,47,97,62,60,47,112,62,10]
mutual
def Xv:Hm.Hb→Bool
 | .mk _ _ t _ _ ks=>decide (t.length≤4000000)&&Ro ks
def Ro:List Hm.Hb→Bool
 | []=>true
 | x::r=>Xv x&&Ro r
end
mutual
theorem rV:∀ x:Hm.Hb,Xv x=true→Pg.oE 4000000 x
 | .mk _ _ t _ _ ks,h=>by
  simp only [Xv,Bool.and_eq_true,decide_eq_true_eq] at h;exact .mk h.1 (vU ks h.2)
theorem vU:∀ l:List Hm.Hb,Ro l=true→∀ x∈l,Pg.oE 4000000 x
 | [],_=>by simp
 | x::r,h=>by
  simp only [Ro,Bool.and_eq_true] at h;intro y hy;rcases List.mem_cons.1 hy with hy | hy
  ·rw [hy];exact rV x h.1
  ·exact vU r h.2 y hy
end
theorem BM:Pg.blk (Hm.lR (Pb.tree (Pb.bh oZ)))=hk2:=by kernel_rfl
theorem Mq:Xv (Hm.lR (Pb.tree (Pb.bh oZ)))=true:=by kernel_rfl
theorem Wc:Nat.ble (Pg.rD (Hm.lR (Pb.tree (Pb.bh oZ)))) 1000=true:=by kernel_rfl
theorem X1:Nat.ble (Pg.bn (Hm.lR (Pb.tree (Pb.bh oZ)))) 1000=true:=by kernel_rfl
theorem II:Pg.blk (Hm.lR (Pb.tree (Pb.bh [])))=[]:=by kernel_rfl
theorem J4:Xv (Hm.lR (Pb.tree (Pb.bh [])))=true:=by kernel_rfl
theorem Q6:Nat.ble (Pg.rD (Hm.lR (Pb.tree (Pb.bh [])))) 1000=true:=by kernel_rfl
theorem UF:Nat.ble (Pg.bn (Hm.lR (Pb.tree (Pb.bh [])))) 1000=true:=by kernel_rfl
theorem Vj:Hm.iH hk2 []=true:=by rw [← BM];exact Pg.CW _
theorem WL:Hm.iH [60,112,62] []=false:=by kernel_rfl
theorem Xl:Hm.iH [60,97,62,60,47,98,62] []=false:=by kernel_rfl
theorem Xr:Hm.iH [60] []=false:=by kernel_rfl
theorem XT:Hm.iH [60,97,32,98,61,34,99,34,62,60,100,32,47,62,60,47,97,62] []=true:=by kernel_rfl
theorem DI (w:World) (hT:Tabs w) :
  Calls Tryz.prog 16 #[] w fun e w'=>e=.returned (.bool true)∧Below w.heap.size w w':=by
 have kc:=fun (w:World) (C:Array Value) (n c:Nat)=>Lib.run_convert_bytes_const (P:=Tryz.prog) w 27 5 C n c Tryz.underlying27 Tryz.underlying5;have q1:=fun (C:Array Value) (m:Nat×Nat) (hC:C.toList=aj oZ) (hs:C.size=62)=>Dm oZ (some ⟨w.heap.size,0,none⟩) 62 (w.alloc (.cells C 5 m)) (Row.fresh w 5 C m hs hC) (by decide) (by decide) (cy hT (aa _ _)) (rV _ Mq) (Nat.le_trans (Nat.le_of_ble_eq_true Wc) (by decide)) (Nat.le_trans (Nat.le_of_ble_eq_true X1) (by decide)) (by rw [BM];decide);rw [BM] at q1;have AG:oZ.length=62:=rfl;rw [AG] at q1;have q2:=fun (w:World) (hT:Tabs w)=>Dm [] none 0 w ⟨rfl,fun h=>absurd h (by simp)⟩ (Nat.le_refl _) (by decide) hT (rV _ J4) (Nat.le_trans (Nat.le_of_ble_eq_true Q6) (by decide)) (Nat.le_trans (Nat.le_of_ble_eq_true UF) (by decide)) (by rw [II];decide);rw [II] at q2;have q3:=fun w=>jh hk2 w (by decide);rw [Vj] at q3;have p0:=fun w=>jh [60,112,62] w (by decide);rw [WL] at p0;have p1:=fun w=>jh [60,97,62,60,47,98,62] w (by decide);rw [Xl] at p1;have p2:=fun w=>jh [60] w (by decide);rw [Xr] at p2;have p3:=fun w=>jh [60,97,32,98,61,34,99,34,62,60,100,32,47,62,60,47,97,62] w (by decide);rw [XT] at p3;have YT:=Lib.hid (fun w' (hb:Below w.heap.size w w')=>cy hT hb);have e2:((bs hk2).toList==[60,104,49,62,97,32,38,108,116,59,98,38,103,116,59,60,47,104,49,62,10,60,98,108,111,99,107,113,117,111,116,101,62,10,60,117,108,62,10,60,108,105,62,10,60,112,62,60,101,109,62,99,60,47,101,109,62,60,47,112,62,10,60,47,108,105,62,10,60,47,117,108,62,10,60,47,98,108,111,99,107,113,117,111,116,101,62,10,60,112,114,101,62,60,99,111,100,101,62,38,108,116,59,100,38,103,116,59,10,60,47,99,111,100,101,62,60,47,112,114,101,62,10,60,104,114,32,47,62,10,60,112,62,60,97,32,104,114,101,102,61,34,35,34,62,101,60,47,97,62,32,60,97,32,104,114,101,102,61,34,104,38,113,117,111,116,59,105,34,62,103,60,47,97,62,60,47,112,62,10])=true:=by rw [bG];rfl
 have Qt:(bs []).toList.isEmpty=true:=by rw [bG];rfl
 obtain ⟨K,hK⟩:∃ K,K=hk2:=⟨_,rfl⟩
 rw [← hK] at q1 q3 e2;replace q1:=Lib.hid q1;replace q2:=Lib.hid q2;replace q3:=Lib.hid q3;replace p0:=Lib.hid p0;replace p1:=Lib.hid p1;replace p2:=Lib.hid p2;replace p3:=Lib.hid p3;clear hK hT;go_enter Tryz.func16,Tryz.ntmps16;go_wp2_with fail;refine (q1.out _ _ rfl rfl).mono ?_;rintro e w1 ⟨rfl,mX⟩;have hb1:=Lib.hid (ag (aa _ _) mX);clear mX q1 kc;go_wp2_with fail;refine (q2.out _ (YT.out _ hb1.out)).mono ?_;rintro e w2 ⟨rfl,hb2⟩;replace hb2:=Lib.hid (ag hb1.out hb2);go_wp2_with fail;refine (q3.out _).mono ?_;rintro e w3 ⟨rfl,hb3⟩;replace hb3:=Lib.hid (ag hb2.out hb3);go_wp2_with fail;refine (p0.out _).mono ?_;rintro e w4 ⟨rfl,hb4⟩;replace hb4:=Lib.hid (ag hb3.out hb4);go_wp2_with fail;refine (p1.out _).mono ?_;rintro e w5 ⟨rfl,hb5⟩;replace hb5:=Lib.hid (ag hb4.out hb5);go_wp2_with fail;refine (p2.out _).mono ?_;rintro e w6 ⟨rfl,jA⟩;replace jA:=Lib.hid (ag hb5.out jA);go_wp2_with fail;refine (p3.out _).mono ?_;rintro e w7 ⟨rfl,dI⟩;replace dI:=Lib.hid (ag jA.out dI);go_wp2_with fail;go_ret;exact ⟨rfl,dI.out⟩
end Go.Proofs.YtddkjkockbcamaaGreatDoor
