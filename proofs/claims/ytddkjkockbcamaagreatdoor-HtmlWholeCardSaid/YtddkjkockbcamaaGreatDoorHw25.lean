/- JoinS2 LfLib -/
import Derived.Test.YtddkjkockbcamaaGreatDoorHw22
import Derived.Test.YtddkjkockbcamaaGreatDoorHw08
import Derived.Test.YtddkjkockbcamaaGreatDoorHw24
import Derived.Test.YtddkjkockbcamaaGreatDoorHw03
import Derived.Test.YtddkjkockbcamaaGreatDoorHw23
import Derived.Test.YtddkjkockbcamaaGreatDoorHw14
set_option maxHeartbeats 16000000
set_option maxRecDepth 100000
namespace Go.Proofs.YtddkjkockbcamaaGreatDoor
open Go.RowKit
theorem I7 (A:Option Addr) (c:Nat) (sep:List UInt8) (w:World) :
  Calls Tryz.prog 127 #[.slice A 0 c,.string (bs sep)] w fun e w'=>e=.returned (.string ⟨#[]⟩)∧w'=w:=by
 go_enter Tryz.func127,Tryz.ntmps127;go_wp2;go_ret;exact ⟨rfl,rfl⟩
theorem Oj (b o c:Nat) (x sep:List UInt8) (w:World) (hc:w.cell? ⟨b,o,none⟩=some (.string (bs x))) :
  Calls Tryz.prog 127 #[.slice (some ⟨b,o,none⟩) 1 c,.string (bs sep)] w fun e w'=>e=.returned (.string (bs x))∧w'=w:=by
 go_enter Tryz.func127,Tryz.ntmps127;go_wp2;go_ret;exact ⟨rfl,rfl⟩
theorem JT (bk o c:Nat) (xs:List (List UInt8)) (sep:List UInt8) (w:World)
  (hcells:∀ (j:Nat) (h:j<xs.length),w.cell? ⟨bk,o+j,none⟩=some (.string (bs xs[j])))
  (hbk:bk<w.heap.size) (h2:2≤xs.length) (hN:xs.length≤140737488355328) (hcap:xs.length≤c) (hsep:0<sep.length)
  (hlen:(Lib.join xs sep).length≤140737488355328) :
  Calls Tryz.prog 127 #[.slice (some ⟨bk,o,none⟩) xs.length c,.string (bs sep)] w fun e w'=>e=.returned (.string (bs (Lib.join xs sep)))∧Below w.heap.size w w':=by
 have HC:=Lib.hid hcells;clear hcells;obtain ⟨x0,r,hxs⟩:∃ x0 r,xs=x0::r:=by
  cases xs with
  | nil=>simp at h2
  | cons a t=>exact ⟨a,t,rfl⟩
 have hjl:sep.length*(xs.length-1)+Lib.lens xs≤140737488355328:=by
  have:=Lib.join_length x0 r sep;rw [hxs] at hlen ⊢;rw [this] at hlen;rw [List.length_cons,Nat.add_sub_cancel];exact hlen
 have hmul:sep.length*(xs.length-1)≤140737488355328:=by omega
 obtain ⟨S,hS⟩:∃ S,sep.length=S:=⟨_,rfl⟩
 rw [hS] at hjl hmul hsep;have af7:(bs sep).size=S:=by rw [au];exact hS
 generalize hM:S*(xs.length-1)=M at hjl hmul;have hcast:((xs.length:Int)-1)=((xs.length-1:Nat):Int):=by omega
 have hlt:S<9223372036854775807 / (xs.length-1):=by
  have:S+1≤9223372036854775807 / (xs.length-1):=by
   rw [Nat.le_div_iff_mul_le (by omega),Nat.add_mul,hM];omega
  omega
 have hdv:¬ (9223372036854775807 / ((xs.length:Int)-1)≤(S:Int)):=by
  have e:(9223372036854775807:Int) / ((xs.length-1:Nat):Int)=((9223372036854775807 / (xs.length-1):Nat):Int):=IntWalk.up_div (x:=9223372036854775807) rfl rfl;rw [hcast,e];generalize 9223372036854775807 / (xs.length-1)=q at hlt;omega
 have hprod:wrap64 ((S:Int)*((xs.length:Int)-1))=(M:Int):=by
  have e:(S:Int)*((xs.length-1:Nat):Int)=((S*(xs.length-1):Nat):Int):=IntWalk.up_mul rfl rfl;rw [hcast,e,hM];exact IntWalk.wrap64_in _ ⟨by omega,by omega⟩
 clear hlt hcast;obtain ⟨n,hn⟩:∃ n,xs.length=n:=⟨_,rfl⟩
 rw [hn] at h2 hN hcap hdv hprod ⊢;have Vl:((n:Int)==0)=false:=beq_eq_false_iff_ne.2 (by omega);have af8:((n:Int)==1)=false:=beq_eq_false_iff_ne.2 (by omega);have Hn:=Lib.hid hn;have Hxs:=Lib.hid hxs;have Hlen:=Lib.hid hlen;have hm0:=Lib.hid hM;clear hxs hlen hM hn hS;go_enter Tryz.func127,Tryz.ntmps127;go_wp2_with fail
 all_goals (
  go_loop [5,41] (fun m i=>∃ k:Nat,k≤n∧i=.int .i64 k∧m=.int .i64 ((M+Lib.lens (xs.take k):Nat):Int)) (fun _ i=>n-(intOf i).toNat)
  case atStart=>exact ⟨0,Nat.zero_le _,rfl,by simp [Lib.lens]⟩
  case round =>
   obtain ⟨k,hk,rfl,rfl⟩:=hrel
   by_cases hkn:k<n
   ·have hkx:k<xs.length:=by rw [Hn.out];exact hkn
    have hc:=HC.out k hkx;have hstep:=Lib.lens_take_succ xs k xs[k] (List.getElem?_eq_getElem hkx);have hbound:Lib.lens (xs.take (k+1))≤Lib.lens xs:=Lib.lens_take_le _ _;have hxl:=au xs[k];generalize oc:Lib.lens (xs.take (k+1))=A1 at hstep hbound;generalize Lib.lens (xs.take k)=A0 at hstep;have HA1:=Lib.hid oc;clear oc;go_wp2;exact ⟨⟨k+1,by omega,by go_num,by rw [HA1.out];refine congrArg _ ?_;omega⟩,by simp [intOf];omega⟩
   ·have Au:k=n:=by omega
    subst Au;have hall:xs.take k=xs:=List.take_of_length_le (by rw [Hn.out];exact Nat.le_refl _);rw [hall];generalize hT:Lib.lens xs=T at hjl;have HT:=Lib.hid hT;clear hT hall;go_wp2_with fail;have hMT:((M:Int)+(T:Int))=((M+T:Nat):Int):=by omega
    rw [hMT];refine (Fa w.heap.size w.heap.size (M+T) _ (Nat.le_refl _) (heap_alloc_new w _) (by simp) (by omega)).mono ?_;rintro e w1 ⟨rfl,h1,hb1⟩;have ow:Below w.heap.size w w1:=((Below.refl w.heap.size w).alloc (Nat.le_refl _) _).trans hb1;have hx0:∃ h:0<xs.length,xs[0]=x0:=⟨by rw [Hn.out];omega,by simp [Hxs.out]⟩
    have hc0:w1.cell? ⟨bk,o,none⟩=some (.string (bs x0)):=by
     obtain ⟨h0,e0⟩:=hx0;rw [ow.cell (p:=⟨bk,o,none⟩) hbk,← e0];exact HC.out 0 h0
    have H1:=Lib.hid (Lib.IsBuilderF.of (Or.inr h1):k9 w.heap.size w.heap.size [] w1);have Hb1:=Lib.hid ow;have Zv:w.heap.size≤w1.heap.size:=ow.size;clear h1 hb1 ow hMT;have I5:Lib.join xs sep=x0++Lib.joinTail sep r:=by rw [Hxs.out,Lib.join_cons]
    have acg:∀ k,(x0++Lib.joinTail sep (r.take k)).length≤140737488355328:=fun k=>by
     have h1:=Hlen.out;rw [I5,List.length_append] at h1;have h2:=Lib.joinTail_take_le sep r k;rw [List.length_append];omega
    have HCle:=Lib.hid acg;have Hwhole:=Lib.hid I5;clear acg I5;go_wp2_with fail;refine (cI w.heap.size w.heap.size [] x0 w1 H1.out (by have:=HCle.out 0;simp [Lib.joinTail] at this ⊢;omega) Zv).mono ?_;rintro e w2 ⟨⟨_,rfl⟩,h2',hb2,_⟩;have hstart:([]:List Value)++ai x0=ai (x0++Lib.joinTail sep (r.take 0)):=by
     simp [Lib.joinTail]
    rw [hstart] at h2';have H2:=Lib.hid h2';have Hb2:=Lib.hid (Hb1.out.trans hb2);clear h2' hb2 hstart;have hrl:r.length=k-1:=by rw [← Hn.out,Hxs.out];simp
    obtain ⟨m,hm⟩:∃ m,r.length=m:=⟨_,rfl⟩
    rw [hm] at hrl;have Hm:=Lib.hid hm;clear hm;go_wp2_with fail
    go_loopw [65] (fun i wr=>∃ j:Nat,j≤m∧i=.int .i64 j∧Hid (k9 w.heap.size w.heap.size (ai (x0++Lib.joinTail sep (r.take j))) wr)∧Hid (Below w.heap.size w wr)) (fun i _=>m-(intOf i).toNat)
    case atStart=>exact ⟨0,Nat.zero_le _,rfl,H2,Hb2⟩
    case round =>
     obtain ⟨j,hj',rfl,HB,HW⟩:=hrel
     by_cases O0:j<m
     ·have XP:j<r.length:=by rw [Hm.out];exact O0
      have hxy:∃ h:j+1<xs.length,xs[j+1]=r[j]:=⟨by rw [Hn.out];omega,by simp [Hxs.out]⟩
      have hcy:wr.cell? ⟨bk,o+1+j,none⟩=some (.string (bs r[j])):=by
       obtain ⟨h0,e0⟩:=hxy;rw [HW.out.cell (p:=⟨bk,o+1+j,none⟩) hbk,show o+1+j=o+(j+1) by omega,← e0];exact HC.out (j+1) h0
      have hBw:w.heap.size≤wr.heap.size:=HW.out.size;have hnext:ai (x0++Lib.joinTail sep (r.take j))++ai sep++ai r[j]=ai (x0++Lib.joinTail sep (r.take (j+1))):=by
       rw [Lib.joinTail_take_succ sep r j r[j] (List.getElem?_eq_getElem XP)];simp [ai]
      have hl1:=HCle.out (j+1);rw [Lib.joinTail_take_succ sep r j r[j] (List.getElem?_eq_getElem XP)] at hl1;simp only [List.length_append] at hl1;have hl0:(ai (x0++Lib.joinTail sep (r.take j))).length=x0.length+(Lib.joinTail sep (r.take j)).length:=by
       simp [ai]
      generalize (Lib.joinTail sep (r.take j)).length=J at hl0 hl1;obtain ⟨y,hy⟩:∃ y,r[j]=y:=⟨_,rfl⟩
      rw [hy] at hnext hl1 hcy;have Hnx:=Lib.hid hnext;clear hnext hy hxy;go_wp2_with fail;refine (cI w.heap.size w.heap.size _ sep wr HB.out (by rw [hl0];omega) hBw).mono ?_;rintro e w3 ⟨⟨_,rfl⟩,h3,hb3,_⟩;have Yq:w.heap.size≤w3.heap.size:=Nat.le_trans hBw hb3.size;have H3:=Lib.hid h3;have Hb3:=Lib.hid hb3;clear h3 hb3;go_wp2_with fail;refine (cI w.heap.size w.heap.size _ y w3 H3.out (by rw [List.length_append,hl0];simp [ai];omega) Yq).mono ?_;rintro e w4 ⟨⟨_,rfl⟩,h4,hb4,_⟩;rw [Hnx.out] at h4;have H4:=Lib.hid h4;have Hb4:=Lib.hid ((HW.out.trans Hb3.out).trans hb4);clear h4 hb4;go_wp2;exact ⟨⟨j+1,by omega,by go_num,H4,Hb4⟩,by simp [intOf];omega⟩
     ·have Au:j=m:=by omega
      subst Au;have hfull:r.take j=r:=List.take_of_length_le (by rw [Hm.out];exact Nat.le_refl _);have VI:=HB.out;rw [hfull,← Hwhole.out] at VI;have hBw:w.heap.size≤wr.heap.size:=HW.out.size;go_wp2_with fail;refine (qA w.heap.size w.heap.size _ wr VI hBw).mono ?_;rintro e w5 ⟨rfl,hb5⟩;have Hb5:=Lib.hid (HW.out.trans hb5);clear hb5 VI;go_wp2;go_ret;exact ⟨rfl,Hb5.out⟩)
theorem tL:∀ ls:List (List UInt8),Pb.eK ls=Lib.join ls [10]
 | []=>rfl
 | [x]=>(Lib.join_one x [10]).symm
 | x::y::r=>by
  have ih:=tL (y::r);rw [Lib.join_cons] at ih ⊢;show x++10::Pb.eK (y::r)=_;rw [ih];simp [Lib.joinTail]
theorem MM (ls:List (List UInt8)) (A:Option Addr) (c:Nat) (w:World) (h:Row w w.heap.size 1 A ls.length (aY ls)) (hlc:ls.length≤c) (hN:ls.length≤1000000000) (hl:(Pb.eK ls).length≤1000000000000) :
  Calls Tryz.prog 127 #[.slice A ls.length c,.string ⟨#[10]⟩] w fun e w'=>e=.returned (.string (bs (Pb.eK ls)))∧Below w.heap.size w w':=by
 rcases Nat.lt_or_ge 1 ls.length with h2 | h2
 ·obtain ⟨b,o,rfl,hb,hc⟩:=nu h (by omega)
  have:=JT b o c ls [10] w (fun j hj=>hc j hj) hb (by omega) (by omega) hlc (by simp) (by rw [← tL];omega);rw [← tL] at this;exact this
 ·match ls,h,h2 with
  | [],_,_=>exact (I7 A c [10] w).mono fun e w' ⟨he,hw⟩=>⟨he,hw▸Below.refl _ _⟩
  | [x],h,_ =>
   obtain ⟨b,o,rfl,hb,hc⟩:=nu h (by simp);exact (Oj b o c x [10] w (hc 0 (by simp))).mono fun e w' ⟨he,hw⟩=>⟨he,hw▸Below.refl _ _⟩
  | _::_::_,_,h2=>simp at h2
theorem Nf (r:List UInt8):(r.dropWhile ([(35:UInt8)].contains ·)).reverse=Lf.dH r.reverse:=by
 induction r with
 | nil=>rfl
 | cons b r ih =>
  rw [List.dropWhile_cons,List.reverse_cons]
  by_cases h:b=35
  ·subst h
   rw [if_pos (by simp),ih,Lf.tV]
  ·rw [if_neg (by simp [h]),Lf.uP _ h,List.reverse_cons]
theorem EB (l:List UInt8):Lib.trimRightS l [35]=Lf.dH l:=by
 unfold Lib.trimRightS;rw [Nf,List.reverse_reverse]
theorem Da (l:List UInt8) (w:World) (hl:l.length≤140737488355328) :
  Calls Tryz.prog 184 #[.string (bs l),.string ⟨#[35]⟩] w fun e w'=>e=.returned (.string (bs (Lf.dH l)))∧Below w.heap.size w w':=by
 have h:=Any.strings_TrimRight_laid Tryz.LM (by kernel_rfl) (bs l) ⟨#[35]⟩ w (by rw [au];omega) (by decide) (ascii_of_all (by decide));change Calls Tryz.prog 184 _ _ (fun e w'=>e=.returned (.string (bs (Lib.trimRightS l [35])))∧Below w.heap.size w w') at h;rwa [EB] at h
theorem C2 (l:List UInt8) (w:World) (hl:l.length≤140737488355328) :
  Calls Tryz.prog 184 #[.string (bs l),.string ⟨#[32,9]⟩] w fun e w'=>e=.returned (.string (bs (Fn.back l)))∧Below w.heap.size w w':=by
 have h:=Any.strings_TrimRight_laid Tryz.LM (by kernel_rfl) (bs l) ⟨#[32,9]⟩ w (by rw [au];omega) (by decide) (ascii_of_all (by decide));change Calls Tryz.prog 184 _ _ (fun e w'=>e=.returned (.string (bs (Lib.trimRightS l [32,9])))∧Below w.heap.size w w') at h;rwa [sQ] at h
theorem byte_back (b:UInt8):((b.toNat:Int)).toNat.toUInt8=b:=by
 rw [show ((b.toNat:Int)).toNat=b.toNat from by omega];simp
theorem AD (S:List UInt8) (b:UInt8) (w:World) :
  Calls Tryz.prog 187 #[.string (bs S),.int .u8 (b.toNat:Int)] w fun e w'=>e=.returned (.int .i64 (Lib.indexByte S b))∧w'=w:=by
 have h:=Tryz.strings_IndexByte (bs S) (b.toNat:Int) w;rw [byte_back] at h;exact h
theorem Hz (S:List UInt8) (b:UInt8):decide ((0:Int)≤Lib.indexByte S b)=S.contains b:=(Lib.contains_iff_indexByte S b).symm
end Go.Proofs.YtddkjkockbcamaaGreatDoor
