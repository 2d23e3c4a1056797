/- IlPClose IlPFsay IlPFoldM IlPFoldS IlPFold IlPFoldN IlPRd IlPRd2 -/
import Derived.Test.YtddkjkockbcamaaGreatDoorHl21
import Derived.Test.YtddkjkockbcamaaGreatDoorHl09
import Derived.Test.YtddkjkockbcamaaGreatDoorHl02
import Derived.Test.YtddkjkockbcamaaGreatDoorHl31
import Derived.Test.YtddkjkockbcamaaGreatDoorHl28
set_option maxHeartbeats 16000000
set_option maxRecDepth 100000
namespace Go.Proofs.YtddkjkockbcamaaGreatDoor
open Go.RowKit
abbrev Af:Ky→Option Pa:=fun _=>none
structure FS (B:Nat) (m0:Ky→Option Pa) (w0:World) (X:List (Nat×Nat×Nat)) (k:Nat) (A:Option Addr) (c:Nat) (v:Value) (ns:List Il.Rw) (V:List V3) (w:World):Prop where
 rs:RS w B Af 6 7 8 v ns V
 pr:ec w (Fr w B (az Af 6 7 8 v ns V)) 3 A (X.length - k) (gJ (X.drop k))
 cap:X.length - k≤c
 kl:k≤X.length
 ok:∀ R∈ns,R.ok
 tu:bT B m0 w0 (az Af 6 7 8 v ns V) w
def stk (ns:List Il.Rw):List (List Il.In):=(ns.map Il.Rw.full).reverse
theorem SY (N:List Il.Rw) (R K:Il.Rw):stk (N++[R]++[K])=K.full::R.full::stk N:=by simp [stk]
theorem qx (N:List Il.Rw) (R:Il.Rw):stk (N++[R])=R.full::stk N:=by simp [stk]
def after (LF:Nat→Nat) (ch:Nat→UInt8) (i:Nat) (F:List Il.In) (Fs:List (List Il.In)) (S:Il.Sk):Il.Sk :=
 Il.nE LF ch (i+1) Fs ((Il.ot LF i (ch i) S).1,Il.gW (Il.ot LF i (ch i) S).2 F)
theorem EL {LF:Nat→Nat} {ch:Nat→UInt8} {i:Nat} {F:List Il.In} {Fs:List (List Il.In)} {x:Nat×Nat×Nat} {X:List (Nat×Nat×Nat)} {st:List (List Il.In)} (h:x.2.1=i):after LF ch i F Fs (x::X,st)=after LF ch i F Fs (X,Il.NH st x.2.2):=by
 unfold after Il.ot;have e:Il.closeAll i (x::X) st=Il.closeAll i X (Il.NH st x.2.2):=by
  conv=>lhs; unfold Il.closeAll
  rw [if_pos h]
 simp only [e]
theorem ya {i:Nat} {x:Nat×Nat×Nat} {X:List (Nat×Nat×Nat)} {st:List (List Il.In)} (h:x.2.1≠i):Il.closeAll i (x::X) st=(x::X,st):=by unfold Il.closeAll; rw [if_neg h]
theorem KP (A:Option Addr) (n c:Nat) (h:1≤n) (w:World):(Instr.slice 236 (.slice A n c) (some (.int .i64 1)) none none).run Tryz.prog w=.ok (.slice (uh 3 A c 1) (n - 1) (c - 1)) w:=by
 have hT:Tryz.prog.underlying 236=some (.slice (Tryz.prog.elem 236)):=by kernel_rfl
 have hsz:∀ w,(sizeOf (Tryz.prog.elem 236)).run Tryz.prog w=.ok 3 w:=fun w=>by kernel_rfl
 rw [run_slice_l w 236 A n c hT .i64 1 (by omega) (by omega),hsz];simp [sliced,uh,Result.andThen]
theorem O4 {w:World} {Q:Nat→Prop} {size n:Nat} {A:Option Addr} {xs:List Value} (h:ec w Q size A n xs) {c lo:Nat} (h1:lo≤n) (h3:n≤c) :
  ec w Q size (uh size A c lo) (n - lo) (xs.drop (lo*size)):=by
 refine ⟨by rw [List.length_drop,h.1,Nat.sub_mul],fun hn=>?_⟩;obtain ⟨b,o,rfl,hb,hc⟩:=h.2 (by omega);refine ⟨b,o+lo*size,?_,hb,fun j u hu=>?_⟩
 ·unfold uh
  rw [if_neg (by omega)];simp only [Option.map_some,Addr.add]
  split
  ·rename_i h0; rw [h0]; rfl
  ·rfl
 ·have:=hc (lo*size+j) u (by rwa [List.getElem?_drop] at hu)
  rwa [← Nat.add_assoc] at this
theorem Ez (X:List (Nat×Nat×Nat)) (k:Nat):(gJ (X.drop k)).drop 3=gJ (X.drop (k+1)):=by
 rcases Nat.lt_or_ge k X.length with h | h
 ·rw [List.drop_eq_getElem_cons h]; rfl
 ·rw [List.drop_eq_nil_of_le h,List.drop_eq_nil_of_le (show X.length≤k+1 by omega)]; rfl
theorem Hr {X:List (Nat×Nat×Nat)} {k i:Nat} (hk:k<X.length) (hg:∀ x∈X,x.1<x.2.1) (hle:∀ x∈X.take k,x.2.1≤i) (hx:X[k].2.1=i):k+1≤X.countP fun x=>decide (x.1<i):=by
 have h1:(X.take (k+1)).countP (fun x=>decide (x.1<i))=(X.take (k+1)).length:=by
  rw [List.countP_eq_length];intro x hx2;rw [List.take_succ_eq_append_getElem hk] at hx2;rcases List.mem_append.1 hx2 with h | h
  ·have:=hle x h
   have:=hg x (List.mem_of_mem_take h);simp; omega
  ·obtain rfl:=List.mem_singleton.1 h
   have:=hg _ (List.getElem_mem hk);simp; omega
 have h2:X.countP (fun x=>decide (x.1<i))=(X.take (k+1)).countP (fun x=>decide (x.1<i))+(X.drop (k+1)).countP (fun x=>decide (x.1<i)):=by
  rw [← List.countP_append,List.take_append_drop]
 rw [List.length_take] at h1;omega
theorem OE {α:Type} {l:List α} (h:2≤l.length):∃ N R K,l=N++[R]++[K]:=by
 rcases List.eq_nil_or_concat l with e | ⟨o,K,e⟩
 ·subst e; simp at h
 ·rw [List.concat_eq_append] at e
  subst e;rcases List.eq_nil_or_concat o with e | ⟨N,R,e⟩
  ·subst e; simp at h
  ·rw [List.concat_eq_append] at e
   subst e;exact ⟨N,R,K,rfl⟩
def EE:Value→Nat
 | .slice _ n _=>n
 | _=>0
theorem Hl (B:Nat) (m0:Ky→Option Pa) (w0:World) (X:List (Nat×Nat×Nat)) (i C M:Nat) (LF:Nat→Nat) (ch:Nat→UInt8) (F:List Il.In) (Fs:List (List Il.In)) (fin:Il.Sk) (hg:∀ x∈X,x.1<x.2.1∧x.2.1≤4000000∧x.2.2≤2) (hC:C=X.countP fun x=>decide (x.1<i)) (hM:M≤1000000000) (NX:X.length≤400000000)
  (k:Nat) (A:Option Addr) (c:Nat) (v:Value) (ns:List Il.Rw) (V:List V3) (w:World) (h0:FS B m0 w0 X k A c v ns V w) (h1:after LF ch i F Fs (X.drop k,stk ns)=fin) (h2:ns.length+k=1+C) (h3:∀ x∈X.take k,x.2.1≤i) (h4:Il.gC ns+2*(X.length - k)≤M) (hB:B≤w.heap.size)
  (s0 s1 s2 s3 s4 s6 s7 s10 s11 s12 s13 s14 s15 s16 s17 s18 s19 s20 s21 s22 s23 s24 s25 s26 s27 s28 s29 s30 s31 s32 s33 s34 s35 s36 s37 s38 s39 s40 s41 s42 s43 s44 s45 s46 s47 s48 s49 s50 s51 s52 s53 s54 s55 s56 s57 s58 s59 s60 s61 s62 s63 s64 s65 s66 s67 s68 s69 s70 s71 s72 s73 s74 s75 s76 s77 s78 s79 s80 s81 s82 s83 s84 s85 s86:Value) (Q0:Exit→Act→World→Prop)
  (nD:∀ (k':Nat) (A':Option Addr) (c':Nat) (v':Value) (ns':List Il.Rw) (V':List V3) (u36 u37 u38 u39 u40 u41 u42 u43 u44 u45 u46 u47 u48 u49 u50 u51 u52 u53 u54 u55:Value) (wq:World),Hid (FS B m0 w0 X k' A' c' v' ns' V' wq)∧Hid (after LF ch i F Fs (X.drop k',stk ns')=fin)∧(ns').length+k'=1+C∧Hid (∀ x∈X.take k',x.2.1≤i)∧Il.gC ns'+2*(X.length - k')≤M→Il.closeAll i (X.drop k') (stk ns')=(X.drop k',stk ns')→Q0 (.exit 2) ⟨(s0::s1::s2::s3::s4 :: .slice A' (X.length - k') c'::s6::s7::v' :: .int .i64 (i:Int)::s10::s11::s12::s13::s14::s15::s16::s17::s18::s19::s20::s21::s22::s23::s24::s25::s26::s27::s28::s29::s30::s31::s32::s33::s34::s35::u36::u37::u38::u39::u40::u41::u42::u43::u44::u45::u46::u47::u48::u49::u50::u51::u52::u53::u54::u55::s56::s57::s58::s59::s60::s61::s62::s63::s64::s65::s66::s67::s68::s69::s70::s71::s72::s73::s74::s75::s76::s77::s78::s79::s80::s81::s82::s83::s84::s85::s86::[]).toArray,[]⟩ wq) :
  Code.wp Tryz.prog (Code.loop (CV Tryz.f174 1)) Q0 ⟨(s0::s1::s2::s3::s4 :: .slice A (X.length - k) c::s6::s7::v :: .int .i64 (i:Int)::s10::s11::s12::s13::s14::s15::s16::s17::s18::s19::s20::s21::s22::s23::s24::s25::s26::s27::s28::s29::s30::s31::s32::s33::s34::s35::s36::s37::s38::s39::s40::s41::s42::s43::s44::s45::s46::s47::s48::s49::s50::s51::s52::s53::s54::s55::s56::s57::s58::s59::s60::s61::s62::s63::s64::s65::s66::s67::s68::s69::s70::s71::s72::s73::s74::s75::s76::s77::s78::s79::s80::s81::s82::s83::s84::s85::s86::[]).toArray,[]⟩ w:=by
 replace nD:=Lib.hid nD;replace h0:=Lib.hid h0;replace h1:=Lib.hid h1;replace h3:=Lib.hid h3;replace hg:=Lib.hid hg;replace hC:=Lib.hid hC;have hBw:Hid (∀ u,Below B w u→B≤u.heap.size):=Lib.hid (fun u hu=>Nat.le_trans hB hu.size)
 conv=>arg 2; arg 1; whnf
 go_loopw [5,8] (fun a b wr=>∃ (k:Nat) (A:Option Addr) (c:Nat) (v:Value) (ns:List Il.Rw) (V:List V3),a=.slice A (X.length - k) c∧b=v∧Hid (FS B m0 w0 X k A c v ns V wr)∧Hid (after LF ch i F Fs (X.drop k,stk ns)=fin)∧(ns).length+k=1+C∧Hid (∀ x∈X.take k,x.2.1≤i)∧Il.gC ns+2*(X.length - k)≤M∧B≤wr.heap.size) (fun a _ _=>EE a)
 case atStart=>exact ⟨k,A,c,v,ns,V,rfl,rfl,h0,h1,h2,h3,h4,hB⟩
 case round =>
  clear h0 h1 h2 h3 h4 hB hBw;obtain ⟨k,A,c,v,ns,V,rfl,rfl,h0,h1,h2,h3,h4,hB⟩:=hrel;have hkl:=h0.out.kl
  by_cases hlt:k<X.length
  ·have TF:=h0.out.pr
   obtain ⟨b,o,rfl,EM,hcell⟩:=TF.2 (by omega);have Fw:X.drop k=X[k]::X.drop (k+1):=List.drop_eq_getElem_cons hlt;have hat:∀ j,j<3→(gJ (X.drop k))[j]?=(ve X[k])[j]?:=fun j hj=>by
    rw [Fw];show (ve X[k]++gJ (X.drop (k+1)))[j]?=_;rw [List.getElem?_append_left (by simpa [ve] using hj)]
   have JC:=hg.out _ (List.getElem_mem hlt);have hcm:=fun e=>Hr hlt (fun x hx=>(hg.out x hx).1) h3.out e;have htk:X.take (k+1)=X.take k++[X[k]]:=List.take_succ_eq_append_getElem hlt;generalize X[k]=x at hat JC Fw hcm htk;obtain ⟨pa,pb,ps⟩:=x;have x1:=hcell _ _ (hat 1 (by omega));have x2:=hcell _ _ (hat 2 (by omega));simp only at JC hcm;have hbr:b<wr.heap.size:=EM.2.1;have hn0:0<X.length - k:=by omega
   obtain ⟨n,hn⟩:∃ n,n=X.length - k:=⟨_,rfl⟩
   rw [← hn] at hn0 ⊢;have hcap:n≤c:=by rw [hn]; exact h0.out.cap
   by_cases wY:pb=i
   ·have t1:((pb:Int)==(i:Int))=true:=by simp [wY]
    have hcm2:=hcm wY;rw [← hC.out] at hcm2;obtain ⟨N,R,K,hns⟩:=OE (l:=ns) (by omega);subst hns;have hwN:Il.gC (N++[R]++[K])=Il.gC N+R.wt+K.wt:=by
     rw [Il.eu,Il.eu,Il.gw,Il.gw];have:Il.gC []=0:=rfl;omega
    have YJ:N.length+2+k=1+C:=by simpa using h2
    have hCX:C≤X.length:=by rw [hC.out]; exact List.countP_le_length
    have Pz:=Lib.hid (JA (m:=Af) ⟨by decide,by decide,by decide⟩ N R K h0.out.rs hB (Il.kd ps) (by omega) (by omega) (by omega));have hst:=Lib.hid (fun w=>ED ps (by omega) w);have hcut:=fun w=>KP (some ⟨b,o,none⟩) n c (by omega) w;have hpr2:=Lib.hid (O4 TF (c:=c) (lo:=1) (by omega) h0.out.cap);have hok:=Lib.hid h0.out.ok;have Bz:Il.kd ps≠0:=by unfold Il.kd; split<;>omega
    have hwp:=R.Gn (.mk (Il.kd ps) [] [] K.full);have wU:Hid (after LF ch i F Fs (X.drop (k+1),stk (N++[R.put (.mk (Il.kd ps) [] [] K.full)]))=fin):=Lib.hid (by
     rw [← h1.out,Fw,EL wY,SY,qx,Il.Rw.uW R Bz]; rfl)
    have hle:Hid (∀ x∈X.take (k+1),x.2.1≤i):=Lib.hid (fun x hx=>by
     rw [htk] at hx;rcases List.mem_append.1 hx with h | h
     ·exact h3.out x h
     ·obtain rfl:=List.mem_singleton.1 h; simp only; omega)
    have hwt:Il.gC (N++[R.put (.mk (Il.kd ps) [] [] K.full)])+2*(X.length - (k+1))≤M:=by
     rw [Il.eu,Il.gw];have e1:Il.gC []=0:=rfl;have e2:Il.eU (.mk (Il.kd ps) [] [] K.full)=0:=rfl;omega
    replace wY:=Lib.hid wY;replace Fw:=Lib.hid Fw;replace htk:=Lib.hid htk;replace hn:=Lib.hid hn;replace Bz:=Lib.hid Bz;replace hwN:=Lib.hid hwN;replace YJ:=Lib.hid YJ;replace hwp:=Lib.hid hwp;replace hC:=Lib.hid hC.out;obtain ⟨kk,hkk⟩:∃ kk,kk=Il.kd ps:=⟨_,rfl⟩
    rw [← hkk] at Pz wU hwt hst Bz;replace hkk:=Lib.hid hkk;clear hcell hat TF EM nD;go_wp2_with fail;refine (hst.out _).mono ?_;rintro e wz ⟨rfl,rfl⟩;go_wp2_with fail;refine Pz.out.mono ?_;rintro e w3 ⟨v3,rfl,V3,oo,uF⟩;have Ku:=uF.gz hpr2.out;have uc:n - 1=X.length - (k+1):=by rw [hn.out]; omega
    have h03:Hid (FS B m0 w0 X (k+1) (uh 3 (some ⟨b,o,none⟩) c 1) (c - 1) v3 (N++[R.put (.mk kk [] [] K.full)]) V3 w3):=Lib.hid
     ⟨oo,by rw [Nat.one_mul,Ez,Nat.sub_sub] at Ku; exact Ku,by omega,by omega,fun Z hZ=>by
      rcases List.mem_append.1 hZ with h | h
      ·exact hok.out Z (by simp [h])
      ·obtain rfl:=List.mem_singleton.1 h
       exact Il.Rw.GV (hok.out R (by simp)) Bz.out _ _ _,h0.out.tu.trans uF⟩
    have jw:B≤w3.heap.size:=Nat.le_trans hB uF.bel.size;have N1:(N++[R.put (.mk kk [] [] K.full)]).length+(k+1)=1+C:=by
     have:=YJ.out;simp; omega
    replace N1:=Lib.hid N1;clear oo uF Ku h0 Pz;go_wp2_with fail
    go_roundw
    case rel=>exact ⟨k+1,_,c - 1,v3,_,V3,by first | rfl | rw [uc],rfl,h03,wU,N1.out,hle,hwt,jw⟩
    case measure=>simp [EE]; omega
   ·have t1:((pb:Int)==(i:Int))=false:=by simp; omega
    have hstop:Hid (Il.closeAll i (X.drop k) (stk ns)=(X.drop k,stk ns)):=Lib.hid (by rw [Fw]; exact ya wY);replace wY:=Lib.hid wY;replace Fw:=Lib.hid Fw;replace htk:=Lib.hid htk;replace hn:=Lib.hid hn;clear hcell hat TF EM hcm;go_wp2_with fail;rw [hn.out];exact nD.out k _ c u8 ns V _ _ _ _ _ _ _ _ _ _ _ _ _ _ _ _ _ _ _ _  wr ⟨h0,h1,h2,h3,h4⟩ hstop.out
  ·have XF:X.length - k=0:=by omega
   have hstop:Hid (Il.closeAll i (X.drop k) (stk ns)=(X.drop k,stk ns)):=Lib.hid (by rw [List.drop_eq_nil_of_le (by omega)]; rfl);obtain ⟨n,hn⟩:∃ n,n=X.length - k:=⟨_,rfl⟩
   rw [← hn];have hn0:¬ 0<n:=by omega
   replace hn:=Lib.hid hn;replace XF:=Lib.hid XF;go_wp2_with fail;rw [hn.out];exact nD.out k A c u8 ns V _ _ _ _ _ _ _ _ _ _ _ _ _ _ _ _ _ _ _ _  wr ⟨h0,h1,h2,h3,h4⟩ hstop.out
end Go.Proofs.YtddkjkockbcamaaGreatDoor

set_option maxHeartbeats 16000000
set_option maxRecDepth 100000
namespace Go.Proofs.YtddkjkockbcamaaGreatDoor
open Go.RowKit
attribute [local go_sem] aD av aq
theorem kD {α:Type} {ns:List α} (h:ns≠[]):∃ R,ns[ns.length - 1]?=some R∧∀ f:α→α,Il.aX f ns=ns.set (ns.length - 1) (f R):=by
 have hp:0<ns.length:=List.length_pos_iff.2 h;refine ⟨ns[ns.length - 1]'(by omega),List.getElem?_eq_getElem (by omega),fun f=>Il.K3 f (by omega) (by omega)⟩
theorem HX {b:UInt8} (h:b.toNat<128):Lib.encodeRune ((b.toNat:Nat):Int)=[b]:=by
 unfold Lib.encodeRune;rw [Lib.encodeRuneZ_one (by omega) (by omega)];simp
theorem FS.say {B:Nat} {m0:Ky→Option Pa} {w0:World} {X:List (Nat×Nat×Nat)} {k:Nat} {A:Option Addr} {c:Nat} {v:Value} {ns:List Il.Rw} {V:List V3} {w w':World} (h:FS B m0 w0 X k A c v ns V w) {f:Il.Rw→Il.Rw} (hf:∀ R,R.ok→(f R).ok) {V':List V3} (hR:RS w' B Af 6 7 8 v (Il.aX f ns) V') (t:bT B (az Af 6 7 8 v ns V) w (az Af 6 7 8 v (Il.aX f ns) V') w'):FS B m0 w0 X k A c v (Il.aX f ns) V' w' :=
 ⟨hR,t.gz h.pr,h.cap,h.kl,Il.nK h.ok hf,h.tu.trans t⟩
theorem MR (B:Nat) (m0:Ky→Option Pa) (w0:World) (X:List (Nat×Nat×Nat)) (L bx:Nat) (b:UInt8) (rn:Int) (ro rc:Bool) (hb:b.toNat<128) (hL:L≤1000000000) (k:Nat) (A:Option Addr) (c:Nat) (v:Value) (ns:List Il.Rw) (V:List V3) (w:World) (h0:FS B m0 w0 X k A c v ns V w) (hne:ns≠[]) (hnl:ns.length≤1000000000) (hw:Il.gC ns≤1000000000) (hB:B≤w.heap.size)
  (rB:Fr w B (az Af 6 7 8 v ns V) bx) (hbc:w.heap[bx]?=some (.cells #[.int .u8 (b.toNat:Int),.int .i64 rn,.bool ro,.bool rc] 240))
  (s0 s1 s2 s3 s4 s5 s6 s7 s9 s11 s12 s13 s14 s15 s16 s17 s18 s19 s20 s21 s22 s23 s24 s25 s26 s27 s28 s29 s30 s31 s32 s33 s34 s35 s36 s37 s38 s39 s40 s41 s42 s43 s44 s45 s46 s47 s48 s49 s50 s51 s52 s53 s54 s55 s56 s57 s58 s61 s62 s63 s64 s65 s66 s67 s68 s69 s70 s71 s72 s73 s74 s75 s76 s77 s78 s79 s80 s81 s82 s83 s84 s85 s86:Value) (Q0:Exit→Act→World→Prop) (bI:∀ c a d v w,Q0 (.panic c) (Act.put a d v) w→Q0 (.panic c) a w)
  (nD:∀ (V':List V3) (u60 u61 u62 u63 u64 u65 u66 u67 u68:Value) (wq:World),FS B m0 w0 X k A c v (Il.aX (fun R=>R.say (List.replicate L b)) ns) V' wq→B≤wq.heap.size→Q0 (.exit 4) ⟨(s0::s1::s2::s3::s4::s5::s6::s7::v::s9 :: .pointer (some ⟨bx,0,none⟩)::s11::s12::s13::s14::s15::s16::s17::s18::s19::s20::s21::s22::s23::s24::s25::s26::s27::s28::s29::s30::s31::s32::s33::s34::s35::s36::s37::s38::s39::s40::s41::s42::s43::s44::s45::s46::s47::s48::s49::s50::s51::s52::s53::s54::s55::s56::s57::s58 :: .int .i64 (L:Int)::u60::u61::u62::u63::u64::u65::u66::u67::u68::s69::s70::s71::s72::s73::s74::s75::s76::s77::s78::s79::s80::s81::s82::s83::s84::s85::s86::[]).toArray,[]⟩ wq) :
  Code.wp Tryz.prog (Code.loop (CV Tryz.f174 2)) Q0 ⟨(s0::s1::s2::s3::s4::s5::s6::s7::v::s9 :: .pointer (some ⟨bx,0,none⟩)::s11::s12::s13::s14::s15::s16::s17::s18::s19::s20::s21::s22::s23::s24::s25::s26::s27::s28::s29::s30::s31::s32::s33::s34::s35::s36::s37::s38::s39::s40::s41::s42::s43::s44::s45::s46::s47::s48::s49::s50::s51::s52::s53::s54::s55::s56::s57::s58 :: .int .i64 (L:Int) :: .int .i64 0::s61::s62::s63::s64::s65::s66::s67::s68::s69::s70::s71::s72::s73::s74::s75::s76::s77::s78::s79::s80::s81::s82::s83::s84::s85::s86::[]).toArray,[]⟩ w:=by
 obtain ⟨g,cp,hv,_,_,_⟩:=h0.rs.slice (List.length_pos_iff.2 hne);have hwr:IntKind.i32.wrap (b.toNat:Int)=(b.toNat:Int):=by unfold IntKind.wrap; simp [IntKind.bits,IntKind.signed]; omega
 have hn0:0<ns.length:=List.length_pos_iff.2 hne;have Xx:Il.aX (fun R=>R.say (List.replicate 0 b)) ns=ns:=by
  obtain ⟨R,h1,h2⟩:=kD hne;rw [h2];have e:R.say (List.replicate 0 b)=R:=by unfold Il.Rw.say; simp
  rw [e];obtain ⟨h3,h4⟩:=List.getElem?_eq_some_iff.1 h1
  conv=>rhs; rw [← List.set_getElem_self h3,h4]
 have hstart:=Lib.hid (show FS B m0 w0 X k A c v (Il.aX (fun R=>R.say (List.replicate 0 b)) ns) V w∧Fr w B (az Af 6 7 8 v (Il.aX (fun R=>R.say (List.replicate 0 b)) ns) V) bx from by rw [Xx]; exact ⟨h0,rB⟩);obtain ⟨nl,QD⟩:∃ nl,nl=ns.length:=⟨_,rfl⟩
 rw [← QD] at hv hnl hn0;have b8:=fun w=>gT g nl cp hn0 (by omega) w;replace nD:=Lib.hid nD;replace bI:=Lib.hid bI;replace hbc:=Lib.hid hbc;replace hne:=Lib.hid hne;replace QD:=Lib.hid QD;have hwj:=Lib.hid (fun j (_:j≤L)=>(show Il.gC (Il.aX (fun R=>R.say (List.replicate j b)) ns)≤2000000000 from by
  have:=Il.jd (f:=fun R=>R.say (List.replicate j b)) (k:=j) (fun R=>by rw [Il.Rw.rV,List.length_replicate]; exact Nat.le_refl _) ns;omega))
 replace hv:=Lib.hid hv;clear h0 rB Xx
 conv=>arg 2; arg 1; whnf
 rw [hv.out]
 go_loopw [60] (fun a wr=>∃ (j:Nat) (V':List V3),a=.int .i64 (j:Int)∧j≤L∧Hid (FS B m0 w0 X k A c v (Il.aX (fun R=>R.say (List.replicate j b)) ns) V' wr)∧Hid (Fr wr B (az Af 6 7 8 v (Il.aX (fun R=>R.say (List.replicate j b)) ns) V') bx)∧Hid (wr.heap[bx]?=some (.cells #[.int .u8 (b.toNat:Int),.int .i64 rn,.bool ro,.bool rc] 240))∧B≤wr.heap.size) (fun a _=>L - (intOf a).toNat)
 case atStart=>exact ⟨0,V,rfl,by omega,Lib.hid hstart.out.1,Lib.hid hstart.out.2,hbc,hB⟩
 case round =>
  clear hstart hbc;obtain ⟨j,V',rfl,hj,hF,hfb,jD,ug⟩:=hrel
  by_cases hlt:j<L
  ·have hjn:Il.aX (fun R=>R.say (List.replicate j b)) ns≠[]:=Il.C4 hne.out
   obtain ⟨R,hR1,hR2⟩:=kD hjn;have hjl:(Il.aX (fun R=>R.say (List.replicate j b)) ns).length=nl:=by rw [Il.kO,QD.out]
   have hnext:Il.aX (fun R=>R.say [b]) (Il.aX (fun R=>R.say (List.replicate j b)) ns)=Il.aX (fun R=>R.say (List.replicate (j+1) b)) ns:=by
    rw [Il.tf];congr 1
    funext R
    unfold Il.Rw.say;simp [List.replicate_succ']
   have GX:=Il.mc (List.mem_of_getElem? hR1);have hwj1:=hwj.out j hj;rw [hjl] at hR1 hR2;obtain ⟨x1,y1,z1,e1,q1,i1⟩:=hF.out.rs.look ⟨by decide,by decide,by decide⟩ hR1;have hc1:=hF.out.rs.cn (i:=nl - 1) (g:=g) (cp:=cp) (by rw [hjl]; exact hv.out) (by rw [hjl]; omega);have hRp:R.p.length≤2000000000:=by unfold Il.Rw.wt at GX; omega
   have aG:=Lib.hid (iO (eR ⟨by decide,by decide,by decide⟩ (nl - 1)) hc1 q1 ug b.toNat (by unfold Ru.vr; omega) (by omega));rw [HX hb] at aG;have hturn:=Lib.hid (fun (w':World) (vp':Value) t=>hF.out.rs.turned (w':=w') (R':=R.say [b]) (x:=x1) (y:=vp') (z:=z1) ⟨by decide,by decide,by decide⟩ hR1 e1 t (t.kids i1));have hS:(fun u:World=>u.heap[bx]?=some (.cells #[.int .u8 (b.toNat:Int),.int .i64 rn,.bool ro,.bool rc] 240)) wr.drew:=jD.out;have mY:Hid (Calls Tryz.prog 205 #[.pointer (some ⟨g,(nl - 1)*2,none⟩),.int .i32 (b.toNat:Int)] wr.drew fun e w'=>e=.returned (.tuple #[])∧∃ V2,FS B m0 w0 X k A c v (Il.aX (fun R=>R.say (List.replicate (j+1) b)) ns) V2 w'∧Fr w' B (az Af 6 7 8 v (Il.aX (fun R=>R.say (List.replicate (j+1) b)) ns) V2) bx∧w'.heap[bx]?=some (.cells #[.int .u8 (b.toNat:Int),.int .i64 rn,.bool ro,.bool rc] 240)∧B≤w'.heap.size):=Lib.hid (by
    have hq:Hq wr.drew B (aN (az Af 6 7 8 v (Il.aX (fun R=>R.say (List.replicate j b)) ns) V') (mz 6 7 8 (nl - 1)) (BX v (Il.aX (fun R=>R.say (List.replicate j b)) ns).length V' (nl - 1)) R x1 y1 z1):=q1.nB.hp;have:=iO (eR ⟨by decide,by decide,by decide⟩ (nl - 1)) hc1 hq ug b.toNat (by unfold Ru.vr; omega) (by omega);rw [HX hb] at this;refine this.mono ?_;rintro e w3 ⟨rfl,vp',t⟩;obtain ⟨oo,uF⟩:=hturn.out w3 vp' (q1.nB.trans t);rw [← hR2 (fun R=>R.say [b]),hnext] at oo uF;obtain ⟨f1,f2⟩:=uF.fre _ hfb.out;have hF2:FS B m0 w0 X k A c v (Il.aX (fun R=>R.say (List.replicate (j+1) b)) ns) (V'.set (nl - 1) (x1,vp',z1)) w3 :=
     ⟨oo,uF.gz hF.out.pr,hF.out.cap,hF.out.kl,by
      rw [← hnext];exact Il.nK hF.out.ok fun R hR=>Il.Rw.AL hR (Il.PV hb 1),hF.out.tu.trans uF⟩
    exact ⟨rfl,_,hF2,f2,f1.trans jD.out,Nat.le_trans ug uF.bel.size⟩)
   clear hturn aG q1 i1 hc1 GX hR1 hF hfb e1;replace hnext:=Lib.hid hnext;replace hjl:=Lib.hid hjl;replace hR2:=Lib.hid hR2;replace jD:=Lib.hid jD.out;clear nD;obtain ⟨nm,hnm⟩:∃ nm,nm=(nl - 1)*2:=⟨_,rfl⟩
   rw [← hnm] at b8 mY;clear hnm;go_upto_region 14 with fail
   refine aE (.rd 0 (.rd 2 (.rd 3 (.rd 4 (.mk 1 (.mk 5 .fin)))))) (fun u:World=>u.heap[bx]?=some (.cells #[.int .u8 (b.toNat:Int),.int .i64 rn,.bool ro,.bool rc] 240)) hS (by kernel_rfl) (by kernel_rfl) (by kernel_rfl) (fun _ _ d _ _ h=>by cases d<;>exact bI.out _ _ _ _ _ h) ?_
   iterate 2 (first | refine an rfl ?_ | (refine ay rfl ?_; intro K hK; go_simp; refine hK _ _ _ ?_; clear hK K))
   refine aH (.int .u8 (b.toNat:Int)) rfl rfl hS (fun u hu=>by
    have h1:=ah (j:=0) hu;go_simp) ?_
   (first | refine an rfl ?_ | (refine ay rfl ?_; intro K hK; go_simp; refine hK _ _ _ ?_; clear hK K))
   refine aC rfl ?_;intro K hK;go_simp;refine (b8 _).mono ?_;rintro e w2 ⟨rfl,rfl⟩;refine ⟨_,hS,fun _ h=>h,hK _ _ _ ?_⟩;clear hK K;refine aC rfl ?_;intro K hK;go_simp;refine mY.out.mono ?_;rintro e w3 ⟨rfl,V2,hF2,hf2,hb2,hB2⟩;have eX:(fun u:World=>u.heap[bx]?=some (.cells #[.int .u8 (b.toNat:Int),.int .i64 rn,.bool ro,.bool rc] 240)) w3:=hb2;refine ⟨_,eX,fun _ h=>h,hK _ _ _ ?_⟩;clear hK K eX hS mY b8;replace hF2:=Lib.hid hF2;replace hf2:=Lib.hid hf2;replace hb2:=Lib.hid hb2;refine aM ?_;go_wp2_with fail
   go_roundw
   case rel=>exact ⟨j+1,V2,by go_num,by omega,hF2,hf2,hb2,hB2⟩
   case measure=>simp [intOf]; omega
  ·have ZA:j=L:=by omega
   subst ZA;have hx:=Lib.hid (fun u60 u61 u62 u63 u64 u65 u66 u67 u68=>nD.out V' u60 u61 u62 u63 u64 u65 u66 u67 u68 wr hF.out ug);rw [hv.out] at hx;clear nD;go_wp2_with fail;exact hx.out _ _ _ _ _ _ _ _ _
end Go.Proofs.YtddkjkockbcamaaGreatDoor

set_option maxHeartbeats 16000000
set_option maxRecDepth 100000
namespace Go.Proofs.YtddkjkockbcamaaGreatDoor
open Go.RowKit
attribute [local go_sem] aD av aq
theorem FO:EI Tryz.prog 218 216 2 48:=EI.mk' (z:=.agg #[.slice none 0 0,.slice none 0 0]) (by kernel_rfl) (by kernel_rfl) rfl (by omega)
theorem Ji (j:Nat):(Builtin.zeroCells (Value.agg #[.slice none 0 0,.slice none 0 0]).cells j).toList=aS (List.replicate j (.slice none 0 0,.slice none 0 0,[])):=by
 apply List.ext_getElem?;intro i;have hl:(aS (List.replicate j ((.slice none 0 0,.slice none 0 0,[]):V3))).length=j*2:=by rw [jQ,List.length_replicate]
 have hz:(Builtin.zeroCells (Value.agg #[.slice none 0 0,.slice none 0 0]).cells j).toList.length=j*2:=by rw [Array.length_toList,size_zeroCells]; rfl
 rcases Nat.lt_or_ge i (j*2) with h | h
 ·have e1:∀ u∈(Builtin.zeroCells (Value.agg #[.slice none 0 0,.slice none 0 0]).cells j).toList,u=Value.slice none 0 0:=by
   intro u hu;simp only [Builtin.zeroCells,Array.toList_map,List.mem_map] at hu;obtain ⟨q,_,rfl⟩:=hu;have hq:q % 2=0∨q % 2=1:=by omega
   show (#[Value.slice none 0 0,Value.slice none 0 0])[q % 2]! = _;rcases hq with e | e<;>rw [e]<;>rfl
  have e2:∀ u∈aS (List.replicate j ((.slice none 0 0,.slice none 0 0,[]):V3)),u=Value.slice none 0 0:=by
   intro u hu;simp only [aS,List.mem_flatMap] at hu;obtain ⟨x,hx,hu⟩:=hu;obtain rfl:=(List.mem_replicate.1 hx).2;simpa using hu
  rw [List.getElem?_eq_getElem (by omega),List.getElem?_eq_getElem (by omega),e1 _ (List.getElem_mem _),e2 _ (List.getElem_mem _)]
 ·rw [List.getElem?_eq_none (by omega),List.getElem?_eq_none (by omega)]
theorem Q6 (ns:List Il.Rw):(stk ns).length=ns.length:=by simp [stk]
theorem zk {ns:List Il.Rw} (h:ns≠[]):∃ N R,ns=N++[R]:=by
 rcases List.eq_nil_or_concat ns with e | ⟨o,y,e⟩
 ·exact absurd e h
 ·exact ⟨o,y,by rw [e,List.concat_eq_append]⟩
theorem SZ {ns:List Il.Rw} (h:ns≠[]) (hok:∀ R∈ns,R.ok) (s:List UInt8):stk (Il.aX (fun R=>R.say s) ns)=Il.dF (stk ns) (Il.word s):=by
 obtain ⟨N,R,rfl⟩:=zk h;rw [Il.bV,qx,qx,Il.Rw.ru (hok R (by simp))]; rfl
theorem OW (ns:List Il.Rw) (o:Nat):stk (ns++List.replicate o Il.Rw.nil)=List.replicate o []++stk ns:=by
 simp [stk,Il.Rw.Py]
theorem NG {ns:List Il.Rw} (h:ns≠[]) (hok:∀ R∈ns,R.ok) {v:Il.Rw} (hv:v.ok):stk (Il.aX (fun R=>R.join v) ns)=Il.gW (stk ns) v.full:=by
 obtain ⟨N,R,rfl⟩:=zk h;rw [Il.bV,qx,qx,(Il.Rw.Ei (hok R (by simp)) hv).2]; rfl
theorem Fi (X:List (Nat×Nat×Nat)) (i:Nat):(X.countP fun x=>decide (x.1<i+1))=(X.countP fun x=>decide (x.1<i))+Il.opn X i:=by
 induction X with
 | nil=>rfl
 | cons x X ih =>
  rw [List.countP_cons,List.countP_cons,Il.xb,ih]
  by_cases h1:x.1<i
  ·rw [if_pos (by simp; omega),if_pos (by simpa using h1),if_neg (by omega)]; omega
  ·by_cases h2:x.1=i
   ·rw [if_pos (by simp; omega),if_neg (by simpa using h1),if_pos h2]; omega
   ·rw [if_neg (by simp; omega),if_neg (by simpa using h1),if_neg h2]; omega
theorem Pv {X:List (Nat×Nat×Nat)} {k i:Nat} (hg:∀ x∈X,x.1<x.2.1) (hle:∀ x∈X.take k,x.2.1≤i):Il.opn (X.drop k) i=Il.opn X i:=by
 have e:Il.opn X i=Il.opn (X.take k) i+Il.opn (X.drop k) i:=by
  unfold Il.opn;rw [← List.countP_append,List.take_append_drop]
 have z:Il.opn (X.take k) i=0:=by
  unfold Il.opn;rw [List.countP_eq_zero];intro x hx;have:=hle x hx;have:=hg x (List.mem_of_mem_take hx);simp; omega
 omega
theorem Hq.IU {K K':Type} {w:World} {B:Nat} {m:K→Option Pa} {m2:K'→Option Pa} (h:Hq w B m) {k0:K} {e:TypeId} {s n c:Nat} {A:Option Addr} {xs:List Value} (h0:m k0=some (.row e s (.slice A n c) n xs)) (hs:∀ q x,m2 q=some x→∃ k,k≠k0∧m k=some x):ec w (Fr w B m2) s A n xs:=by
 have ho:w.ownsRow B e s (.slice A n c) n xs:=h.holds _ _ h0;have hr:=jC ho;refine ⟨hr.1,fun hp=>?_⟩;obtain ⟨b,o,h1,h2,h3⟩:=hr.2 hp;refine ⟨b,o,h1,⟨h2.1,h2.2,fun q x hx hb=>?_⟩,h3⟩;obtain ⟨k,hk,hk2⟩:=hs q x hx;exact hk (h.apart _ _ _ _ b hk2 h0 hb (by show (Value.slice A n c).ownBlock=some b; rw [h1]; rfl))
theorem FS.ext {B:Nat} {m0:Ky→Option Pa} {w0:World} {X:List (Nat×Nat×Nat)} {k:Nat} {A:Option Addr} {c:Nat} {v:Value} {ns:List Il.Rw} {V:List V3} {w w':World} (h:FS B m0 w0 X k A c v ns V w) (hB:B≤w.heap.size) (hb:Below w.heap.size w w'):FS B m0 w0 X k A c v ns V w':=by
 have t:=h.rs.hp.call hB hb;exact ⟨h.rs.ext hB hb,t.gz h.pr,h.cap,h.kl,h.ok,h.tu.trans t⟩
def Kn (l:List Em.R):Nat:=(l.map fun r=>r.n.toNat).sum
end Go.Proofs.YtddkjkockbcamaaGreatDoor

set_option maxHeartbeats 16000000
set_option maxRecDepth 100000
namespace Go.Proofs.YtddkjkockbcamaaGreatDoor
open Go.RowKit
structure FR (w:World) (Q:Nat→Prop) (runs:List Em.R) (AR:Option Addr) (g1 g2:Nat) (O L:List Nat) (AF:Option Addr) (rs:List Il.Rw) (V:List V3):Prop where
 rn:ec w Q 4 AR runs.length (aF runs)
 o:ec w Q 1 (some ⟨g1,0,none⟩) runs.length (aB O)
 l:ec w Q 1 (some ⟨g2,0,none⟩) runs.length (aB L)
 flat:ec w Q 2 AF rs.length (aS V)
 rows:∀ i,1≤i→∀ (h:i<rs.length) (h':i<V.length),∃ A c Ap cp,V[i].1=.slice A rs[i].l.length c∧V[i].2.1=.slice Ap rs[i].p.length cp∧ec w Q 4 A rs[i].l.length V[i].2.2.flatten∧gA w Q rs[i].l V[i].2.2∧ec w Q 1 Ap rs[i].p.length (aj rs[i].p)
theorem FR.turn {K K':Type} {B:Nat} {m:K→Option Pa} {m':K'→Option Pa} {w w':World} {runs:List Em.R} {AR:Option Addr} {g1 g2:Nat} {O L:List Nat} {AF:Option Addr} {rs:List Il.Rw} {V:List V3} (t:bT B m w m' w') (h:FR w (Fr w B m) runs AR g1 g2 O L AF rs V):FR w' (Fr w' B m') runs AR g1 g2 O L AF rs V :=
 ⟨t.gz h.rn,t.gz h.o,t.gz h.l,t.gz h.flat,fun i h1 h2 h3=>by
  obtain ⟨A,c,Ap,cp,e1,e2,e3,e4,e5⟩:=h.rows i h1 h2 h3;exact ⟨A,c,Ap,cp,e1,e2,t.gz e3,t.kids e4,t.gz e5⟩⟩
theorem M6 {V:List V3} {i:Nat} (h:i<V.length):(aS V)[i*2]?=some V[i].1∧(aS V)[i*2+1]?=some V[i].2.1:=by
 have:=fun j (hj:j<2)=>gU (f:=fun x:V3=>[x.1,x.2.1]) (m:=2) (fun _=>rfl) V i j h hj;exact ⟨this 0 (by omega),this 1 (by omega)⟩
theorem GS {m:Ky→Option Pa} {vF:Value} {rs:List Il.Rw} {V:List V3} {w:World} {B:Nat} (h:RS w B m 3 4 5 vF rs V) (h1:0<rs.length) {AR:Option Addr} {cR:Nat} {runs:List Em.R} (tK:m (1,0)=some (.row 240 4 (.slice AR runs.length cR) runs.length (aF runs))) :
  ∃ (m2:Ky→Option Pa) (R0:Il.Rw) (x0:V3),rs[0]?=some R0∧V[0]?=some x0∧bT B (az m 3 4 5 vF rs V) w m2 w∧m2 (6,0)=none∧m2 (7,0)=some (lW R0 x0.1 x0.2.2)∧m2 (8,0)=some (mC R0 x0.2.1)∧(∀ q,q≠(7,0)→q≠(8,0)→m2 q=none)∧gA w (Fr w B m2) R0.l x0.2.2 ∧
   ec w (Fr w B m2) 4 AR runs.length (aF runs)∧∃ AF cF,vF=.slice AF rs.length cF∧ec w (Fr w B m2) 2 AF rs.length (aS V)∧∀ i,1≤i→∀ (h:i<rs.length) (h':i<V.length),∃ A c Ap cp,V[i].1=.slice A rs[i].l.length c∧V[i].2.1=.slice Ap rs[i].p.length cp∧ec w (Fr w B m2) 4 A rs[i].l.length V[i].2.2.flatten∧gA w (Fr w B m2) rs[i].l V[i].2.2∧ec w (Fr w B m2) 1 Ap rs[i].p.length (aj rs[i].p):=by
 have hV:0<V.length:=by rw [h.len]; exact h1
 obtain ⟨g,cF,Qy,_,_,_⟩:=h.slice h1;have k4:∀ i (hi:i<rs.length) (hi':i<V.length),az m 3 4 5 vF rs V (4,i)=some (lW rs[i] V[i].1 V[i].2.2):=fun i hi hi'=>by
  unfold az atR;rw [if_neg (by simp),if_pos rfl,List.getElem?_eq_getElem hi,List.getElem?_eq_getElem hi']
 have k5:∀ i (hi:i<rs.length) (hi':i<V.length),az m 3 4 5 vF rs V (5,i)=some (mC rs[i] V[i].2.1):=fun i hi hi'=>by
  unfold az atR;rw [if_neg (by simp),if_neg (by simp),if_pos rfl,List.getElem?_eq_getElem hi,List.getElem?_eq_getElem hi']
 have k1:az m 3 4 5 vF rs V (1,0)=some (.row 240 4 (.slice AR runs.length cR) runs.length (aF runs)):=by
  unfold az;rw [if_neg (by simp),if_neg (by simp),if_neg (by simp)]; exact tK
 obtain ⟨m2,hm2⟩:∃ m2:Ky→Option Pa,m2=fun q=>if q=(7,0) then some (lW rs[0] V[0].1 V[0].2.2) else if q=(8,0) then some (mC rs[0] V[0].2.1) else none:=⟨_,rfl⟩
 have hsub:∀ q x,m2 q=some x→(q=(7,0)∧az m 3 4 5 vF rs V (4,0)=some x)∨(q=(8,0)∧az m 3 4 5 vF rs V (5,0)=some x):=fun q x hx=>by
  rw [hm2] at hx;simp only at hx
  by_cases h7:q=(7,0)
  ·rw [if_pos h7] at hx; exact .inl ⟨h7,by rw [k4 0 h1 hV]; exact hx⟩
  ·rw [if_neg h7] at hx
   by_cases h8:q=(8,0)
   ·rw [if_pos h8] at hx; exact .inr ⟨h8,by rw [k5 0 h1 hV]; exact hx⟩
   ·rw [if_neg h8] at hx; cases hx
 have t:bT B (az m 3 4 5 vF rs V) w m2 w:=h.hp.ML (fun q=>if q=(7,0) then (4,0) else (5,0)) (fun q x hx=>.inl (by
   rcases hsub q x hx with ⟨rfl,h2⟩ | ⟨rfl,h2⟩
   ·simpa using h2
   ·simpa using h2)) (fun q q' x x' hx hx' _ e=>by
   rcases hsub q x hx with ⟨rfl,_⟩ | ⟨rfl,_⟩<;>rcases hsub q' x' hx' with ⟨rfl,_⟩ | ⟨rfl,_⟩<;>simp at e ⊢)
 have free:∀ k0,k0≠(4,0)→k0≠(5,0)→∀ q x,m2 q=some x→∃ k,k≠k0∧az m 3 4 5 vF rs V k=some x:=fun k0 n1 n2 q x hx=>by
  rcases hsub q x hx with ⟨_,h2⟩ | ⟨_,h2⟩
  ·exact ⟨_,Ne.symm n1,h2⟩
  ·exact ⟨_,Ne.symm n2,h2⟩
 refine ⟨m2,rs[0],V[0],List.getElem?_eq_getElem h1,List.getElem?_eq_getElem hV,t,by rw [hm2]; rfl,by rw [hm2]; rfl,by rw [hm2]; rfl,fun q n1 n2=>by rw [hm2]; simp only; rw [if_neg n1,if_neg n2],t.kids (h.kids 0 h1 hV),h.hp.IU k1 (free _ (by simp) (by simp)),some ⟨g,0,none⟩,cF,Qy,?_,fun i hi1 hi hi'=>?_⟩
 ·have ka:=og m 3 4 5 vF rs V
  rw [Qy] at ka;rw [Qy] at h free;exact h.hp.IU ka (free _ (by simp) (by simp))
 ·have o4:w.ownsRow B 35 4 V[i].1 rs[i].l.length V[i].2.2.flatten:=h.hp.holds _ _ (k4 i hi hi')
  have o5:w.ownsRow B 5 1 V[i].2.1 rs[i].p.length (aj rs[i].p):=h.hp.holds _ _ (k5 i hi hi');obtain ⟨A,c,e1,_⟩:=ak o4;obtain ⟨Ap,cp,e2,_⟩:=ak o5;have k4':=k4 i hi hi';have k5':=k5 i hi hi';unfold lW at k4';unfold mC at k5';rw [e1] at k4';rw [e2] at k5';exact ⟨A,c,Ap,cp,e1,e2,h.hp.IU k4' (free _ (by simp; omega) (by simp)),t.kids (h.kids i hi hi'),h.hp.IU k5' (free _ (by simp) (by simp; omega))⟩
theorem Fp {m2:Ky→Option Pa} {R0:Il.Rw} {x0:V3} {w:World} {B:Nat} (hp:Hq w B m2) (hB:B≤w.heap.size) (h6:m2 (6,0)=none) (h7:m2 (7,0)=some (lW R0 x0.1 x0.2.2)) (h8:m2 (8,0)=some (mC R0 x0.2.1)) (hno:∀ q,q≠(7,0)→q≠(8,0)→m2 q=none) (hI:gA w (Fr w B m2) R0.l x0.2.2) :
  bT B m2 w (az Af 6 7 8 (.slice (some ⟨w.heap.size,0,none⟩) 1 1) [R0] [x0]) (w.alloc (.cells #[x0.1,x0.2.1] 216))∧RS (w.alloc (.cells #[x0.1,x0.2.1] 216)) B Af 6 7 8 (.slice (some ⟨w.heap.size,0,none⟩) 1 1) [R0] [x0]:=by
 have t:=hp.CF (k:=(6,0)) (w':=w.alloc (.cells #[x0.1,x0.2.1] 216)) (.row 216 2 (.slice (some ⟨w.heap.size,0,none⟩) 1 1) 1 [x0.1,x0.2.1]) h6 (aa w _)
  (World.ownsRow_lit w #[x0.1,x0.2.1] 1 hB (by unfold maxLen; omega) rfl) (fun g hg=>by
   have e:some w.heap.size=some g:=hg;injection e with e; omega) hB
 have e:uq m2 (6,0) (.row 216 2 (.slice (some ⟨w.heap.size,0,none⟩) 1 1) 1 [x0.1,x0.2.1])=az Af 6 7 8 (.slice (some ⟨w.heap.size,0,none⟩) 1 1) [R0] [x0]:=by
  funext q
  obtain ⟨q1,q2⟩:=q;unfold uq az
  by_cases h:(q1,q2)=(6,0)
  ·rw [if_pos h,if_pos h]; rfl
  ·rw [if_neg h,if_neg h]
   simp only
   by_cases h1:q1=7
   ·subst h1
    rw [if_pos rfl];rcases q2 with _ | q2
    ·rw [h7]; rfl
    ·rw [hno _ (by simp) (by simp)]; rfl
   ·rw [if_neg h1]
    by_cases h2:q1=8
    ·subst h2
     rw [if_pos rfl];rcases q2 with _ | q2
     ·rw [h8]; rfl
     ·rw [hno _ (by simp) (by simp)]; rfl
    ·rw [if_neg h2,hno _ (by simp [h1]) (by simp [h2])]
 rw [e] at t;refine ⟨t,t.hp,rfl,fun i hi hi'=>?_⟩;obtain rfl:i=0:=by simpa using hi
 exact t.kids hI
end Go.Proofs.YtddkjkockbcamaaGreatDoor

set_option maxHeartbeats 16000000
set_option maxRecDepth 100000
namespace Go.Proofs.YtddkjkockbcamaaGreatDoor
open Go.RowKit
attribute [local go_sem] aD av aq
theorem ND:∀ u∈(Value.agg #[.slice none 0 0,.slice none 0 0]).cells.toList,u.oneCell'=true:=by
 intro u hu;have:u=.slice none 0 0∨u=.slice none 0 0:=by simpa [Value.cells] using hu
 rcases this with rfl | rfl<;>rfl
theorem Fe {m:Ky→Option Pa} {vF:Value} {rs:List Il.Rw} {V:List V3} {w:World} {B:Nat} {AR:Option Addr} {cR:Nat} (runs:List Em.R) (T:List Il.In) (h:RS w B m 3 4 5 vF rs V) (hB:B≤w.heap.size) (tK:m (1,0)=some (.row 240 4 (.slice AR runs.length cR) runs.length (aF runs)))
  (hlr:rs.length=runs.length+1) (hn:runs.length≤4000000) (uc:1≤runs.length) (hok:∀ R∈rs,R.ok) (hch:∀ r∈runs,r.ch.toNat<128∧0≤r.n∧r.n≤1000000000) (hwt:Il.gC rs≤64000000) (hct:Kn runs≤4000000)
  (hT:∃ R Rs,rs=R::Rs∧Il.nE (Il.pF runs) (fun r=>(Em.get runs r).ch) 0 (Rs.map Il.Rw.full) (Em.pairs runs,[R.full])=([],[T])) :
  Calls Tryz.prog 174 #[vF,.slice AR runs.length cR] w fun e w'=>∃ v,e=.returned v∧∃ css,w'.ownsRow B 35 4 v T.length css.flatten∧gA w' (fun b=>B≤b∧b<w'.heap.size) T css∧Below B w w':=by
 obtain ⟨m2,R0,x0,UP,hx0,t2,h6,h7,h8,hno,Qi,HK,AF,cF,rfl,Bh,Ht⟩:=GS h (by omega) tK;have hX:=Em.CT runs;have hinv:=Em.oc runs;obtain ⟨X,N0⟩:∃ X,X=Em.pairs runs:=⟨_,rfl⟩
 have Ch:∀ x∈X,x.1<x.2.1∧x.2.1≤4000000∧x.2.2≤2:=fun x hx=>by
  have:=hinv.good x (by rw [N0] at hx; exact hx);exact ⟨this.1,by omega,this.2.2.2.2.1⟩
 have Hw:∀ x∈X,x.1<runs.length∧x.2.1<runs.length∧x.1≠x.2.1∧x.2.2≤2:=fun x hx=>by
  have:=hinv.good x (by rw [N0] at hx; exact hx);exact ⟨by omega,this.2.2.1,by omega,this.2.2.2.2.1⟩
 have mh:∀ i,i<runs.length→Em.used X i≤Il.cnt runs i:=fun i hi=>by
  have h1:=hinv.sum i hi;have h2:=(Il.qw (fun r hr=>(hch r hr).2) hi).1;rw [N0];unfold Em.pairs;omega
 have BH:=fun w hw=>Hj runs AR cR w hw hn;rw [← N0] at hX hT BH;have HM:Row w w.heap.size 4 AR runs.length (aF runs):=CD HK (fun b hb=>hb.2.1);have P5:∀ i,Il.cnt runs i - Em.used X i=Il.pF runs i:=fun i=>by rw [N0]; rfl
 have hpos:∀ r∈runs,0≤r.n∧r.n≤1000000000:=fun r hr=>(hch r hr).2;have YK:=h.len;obtain ⟨gF,cF',Qy,_,_,Y0⟩:=h.slice (by omega);injection Qy with hAF _ _;subst hAF;have c00:=(Bh.2 (by omega))
 obtain ⟨bF,oF,Rr,_,Y8⟩:=c00;injection Rr with Rr;injection Rr with e1 e2;subst e1 e2;have y0:w.cell? ⟨gF,0,none⟩=some x0.1:=by
  obtain ⟨hv1,hv2⟩:=List.getElem?_eq_some_iff.1 hx0;have:=Y8 0 x0.1 (by rw [← hv2]; exact (M6 hv1).1);simpa using this
 have y1:w.cell? ⟨gF,1,none⟩=some x0.2.1:=by
  obtain ⟨hv1,hv2⟩:=List.getElem?_eq_some_iff.1 hx0;have:=Y8 1 x0.2.1 (by rw [← hv2]; exact (M6 hv1).2);simpa using this
 replace Y8:=Lib.hid Y8;replace t2:=Lib.hid t2;replace Qi:=Lib.hid Qi;replace HK:=Lib.hid HK;replace Bh:=Lib.hid Bh;replace Ht:=Lib.hid Ht;replace hno:=Lib.hid hno;replace h6:=Lib.hid h6;replace h7:=Lib.hid h7;replace h8:=Lib.hid h8;replace hT:=Lib.hid hT;replace BH:=Lib.hid BH;replace Ch:=Lib.hid Ch;replace Hw:=Lib.hid Hw;replace mh:=Lib.hid mh;replace HM:=Lib.hid HM;replace P5:=Lib.hid P5;replace hpos:=Lib.hid hpos;replace hch:=Lib.hid hch;replace hok:=Lib.hid hok;replace UP:=Lib.hid UP;replace hx0:=Lib.hid hx0;replace YK:=Lib.hid YK;replace N0:=Lib.hid N0;replace hinv:=Lib.hid hinv;replace hlr:=Lib.hid hlr;clear h tK;obtain ⟨n,hnn⟩:∃ n,n=runs.length:=⟨_,rfl⟩
 rw [← hnn] at hn uc ⊢;have hlrn:rs.length=n+1:=by rw [hlr.out,hnn]
 obtain ⟨nf,hnf⟩:∃ nf,nf=rs.length:=⟨_,rfl⟩
 rw [← hnf] at hlrn ⊢;replace hnn:=Lib.hid hnn;replace hnf:=Lib.hid hnf;have hn0:((n:Int)==0)=false:=by simp; omega
 have hi0:(0:Int)<(nf:Int):=by omega
 go_enter Tryz.func174,Tryz.ntmps174;go_upto_region 3 with fail
 go_wp2_with fail;rw [hnn.out];refine (BH.out _ HM.out).mono ?_;rintro e w1 ⟨⟨vp,rfl,hop⟩,hb1⟩;obtain ⟨A5,c5,rfl,hc5⟩:=ak hop;have hz1:=hb1.size;have XJ:=Lib.hid (HM.out.ext hb1);have Rt:=jC hop;have NQ:=Lib.hid (Row.own hop);have hsh:=Lib.hid (B5 runs X AR cR A5 c5 w1 XJ.out NQ.out (by have:=hnn.out; omega) (by have:=hnn.out; omega) Hw.out hpos.out mh.out);rw [← hnn.out] at hsh;rw [← hnn.out];have y0':=(hb1.cell (p:=⟨gF,0,none⟩) Y0).trans y0;have y1':=(hb1.cell (p:=⟨gF,1,none⟩) Y0).trans y1;replace Rt:=Lib.hid Rt;replace hb1:=Lib.hid hb1;clear hop y0 y1;go_wp2_with fail;refine hsh.out.mono ?_;rintro e w3 ⟨g1,g2,O,L,rfl,CK,hO,hL,hb3⟩;have Pk:=ag hb1.out hb3;have z0:=(hb3.cell (p:=⟨gF,0,none⟩) (Nat.lt_of_lt_of_le Y0 hz1)).trans y0';have z1:=(hb3.cell (p:=⟨gF,1,none⟩) (Nat.lt_of_lt_of_le Y0 hz1)).trans y1';have T4:=Pk.size;have t3:=t2.out.hp.call hB Pk;have jw:=Nat.le_trans hB T4;obtain ⟨t4,MB⟩:=Fp t3.hp jw h6.out h7.out h8.out hno.out (t3.kids Qi.out);have tot:=Lib.hid (t2.out.trans (t3.trans t4));have hnew:=fun b (h1:w.heap.size≤b) (h2:b<w3.heap.size)=>Hq.new (w':=w3) t2.out.hp hB h1 h2;have Ku:=t4.gz (Rt.out.frame (w':=w3) (Q':=Fr w3 B m2) (fun b hb=>hb3.block b hb.2) (fun b hb=>hnew b hb.1 (Nat.lt_of_lt_of_le hb.2 hb3.size)));have LM:=t4.gz ((jC CK.o).frame (w':=w3) (Q':=Fr w3 B m2) (fun _ _=>rfl) (fun b hb=>hnew b (by omega) hb.2));have hL3:=t4.gz ((jC CK.l).frame (w':=w3) (Q':=Fr w3 B m2) (fun _ _=>rfl) (fun b hb=>hnew b (by omega) hb.2));have KM:=Lib.hid (show FR _ _ runs AR g1 g2 O L (some ⟨gF,0,none⟩) rs V from ⟨t4.gz (t3.gz HK.out),by rw [← hnn.out]; exact LM,by rw [← hnn.out]; exact hL3,t4.gz (t3.gz Bh.out),fun i a b c=>by
  obtain ⟨A,c',Ap,cp,e1,e2,e3,e4,e5⟩:=Ht.out i a b c;exact ⟨A,c',Ap,cp,e1,e2,t4.gz (t3.gz e3),t4.kids (t3.kids e4),t4.gz (t3.gz e5)⟩⟩)
 have Vz:R0.ok:=hok.out R0 (List.mem_of_getElem? UP.out);have Uq:=Lib.hid (show FS B (az Af 6 7 8 (.slice (some ⟨w3.heap.size,0,none⟩) 1 1) [R0] [x0]) (w3.alloc (.cells #[x0.1,x0.2.1] 216)) X 0 A5 c5 (.slice (some ⟨w3.heap.size,0,none⟩) 1 1) [R0] [x0] (w3.alloc (.cells #[x0.1,x0.2.1] 216)) from
  ⟨MB,by simpa using Ku,by simpa using hc5,Nat.zero_le _,fun R hR=>by obtain rfl:=List.mem_singleton.1 hR; exact Vz,MB.hp.refl⟩)
 replace hO:=Lib.hid hO;replace hL:=Lib.hid hL;have Sb:=Lib.hid CK.ol;have Xo:=Lib.hid CK.ll;replace CK:=Lib.hid CK;replace Pk:=Lib.hid Pk;replace hnew:=Lib.hid hnew;replace Vz:=Lib.hid Vz;replace MB:=Lib.hid MB;clear Ku LM hL3 t3 t4 hb3 y0' y1' Rt hsh hb1;go_wp2_with fail;obtain ⟨w4,hw4⟩:∃ w4,w4=w3.alloc (.cells #[x0.1,x0.2.1] 216):=⟨_,rfl⟩
 obtain ⟨gN,hgN⟩:∃ g,g=w3.heap.size:=⟨_,rfl⟩
 rw [← hw4,← hgN] at tot KM Uq ⊢;have tc:B≤w4.heap.size:=by rw [hw4]; simp; omega
 clear hw4 hgN MB z0 z1 hnew CK Pk;obtain ⟨m4,hm4⟩:∃ m4,m4=az Af 6 7 8 (.slice (some ⟨gN,0,none⟩) 1 1) [R0] [x0]:=⟨_,rfl⟩
 have Xg:Hid (FS B m4 w4 X 0 A5 c5 (.slice (some ⟨gN,0,none⟩) 1 1) [R0] [x0] w4):=by rw [hm4]; exact Uq
 rw [← hm4] at tot KM;clear hm4 Uq;obtain ⟨M,hM⟩:∃ M,M=1000000000:=⟨_,rfl⟩
 have hMle:M≤1000000000:=by omega
 have hX4:X.length≤400000000:=by have:=hnn.out; omega
 have hstart:Hid (Il.nE (Il.pF runs) (fun r=>(Em.get runs r).ch) 0 ((rs.drop 1).map Il.Rw.full) (X.drop 0,stk [R0])=([],[T]))∧Il.gC [R0]+2*(X.length - 0)+2*Il.gC (rs.drop 1)+Kn (runs.drop 0)≤M:=by
  obtain ⟨R,Rs,e1,e2⟩:=hT.out;have e3:R=R0:=by have:=UP.out; rw [e1] at this; simpa using this
  subst e3;have e4:Il.gC rs=R.wt+Il.gC Rs:=by rw [e1,Il.gw]
  have e5:Il.gC [R]=R.wt:=by simp [Il.gC]
  refine ⟨Lib.hid (by rw [e1]; exact e2),?_⟩;rw [e1,List.drop_one,List.tail_cons,List.drop_zero,e5];have:=hnn.out;omega
 obtain ⟨Mg,Ts⟩:=hstart;replace hM:=Lib.hid hM;replace hX:=Lib.hid hX;replace NQ:=Lib.hid NQ
 go_loopw [5,8,31] (fun a b u wr=>∃ (i k:Nat) (A:Option Addr) (c:Nat) (v:Value) (ns:List Il.Rw) (V':List V3),a=.slice A (X.length - k) c∧b=v∧u=.int .i64 (i:Int)∧i≤n∧Hid (FS B m4 w4 X k A c v ns V' wr)∧Hid (Il.nE (Il.pF runs) (fun r=>(Em.get runs r).ch) i ((rs.drop (i+1)).map Il.Rw.full) (X.drop k,stk ns)=([],[T]))∧Hid (ns.length+k=1+X.countP fun x=>decide (x.1<i))∧Hid (∀ x∈X.take k,x.2.1≤i)∧Il.gC ns+2*(X.length - k)+2*Il.gC (rs.drop (i+1))+Kn (runs.drop i)≤M∧B≤wr.heap.size) (fun _ _ u _=>n - (intOf u).toNat)
 case atStart=>exact ⟨0,0,A5,c5,.slice (some ⟨gN,0,none⟩) 1 1,[R0],[x0],rfl,rfl,rfl,by omega,Xg,Mg,Lib.hid (by simp),Lib.hid (by simp),Ts,tc⟩
 case round =>
  clear Xg Mg Ts;obtain ⟨i,k,A,c,v,ns,V',rfl,rfl,rfl,hi,hF,wU,mB,hle,aab,ug⟩:=hrel
  by_cases hlt:i<n
  ·have Jd:i<runs.length:=by rw [← hnn.out]; exact hlt
   have Ug:=KM.out.turn hF.out.tu;obtain ⟨bR,oR,rfl,hqR,Vn⟩:=Ug.rn.2 (by omega);have hat:=fun j (hj:j<4)=>gU (f:=jK) (m:=4) (fun _=>rfl) runs i j Jd hj;have Xe:Em.get runs i=runs[i]:=Em.get_at Jd;have UQ:=hch.out _ (List.getElem_mem Jd);have hdr:runs.drop i=runs[i]::runs.drop (i+1):=List.drop_eq_getElem_cons Jd;generalize runs[i]=r at hat Xe UQ hdr;obtain ⟨ch,rn,ro,rc⟩:=r;simp only at UQ;have x0c:=Vn _ _ (hat 0 (by omega));have x1c:=Vn _ _ (hat 1 (by omega));have x2c:=Vn _ _ (hat 2 (by omega));have x3c:=Vn _ _ (hat 3 (by omega));simp only [← Nat.add_assoc,Nat.add_zero] at x0c x1c x2c x3c;have hbr:bR<wr.heap.size:=hqR.2.1;have hcti:Kn (runs.drop i)=rn.toNat+Kn (runs.drop (i+1)):=by rw [hdr]; rfl
   have Bm:=Lib.hid (hF.out.ext (w':=wr.alloc (.cells #[.int .u8 (ch.toNat:Int),.int .i64 rn,.bool ro,.bool rc] 240)) ug (aa wr _));have rB:=Lib.hid (Hq.new (w':=wr.alloc (.cells #[.int .u8 (ch.toNat:Int),.int .i64 rn,.bool ro,.bool rc] 240)) hF.out.rs.hp ug (b:=wr.heap.size) (Nat.le_refl _) (by simp));have hbc:Hid ((wr.alloc (.cells #[.int .u8 (ch.toNat:Int),.int .i64 rn,.bool ro,.bool rc] 240)).heap[wr.heap.size]?=some (.cells #[.int .u8 (ch.toNat:Int),.int .i64 rn,.bool ro,.bool rc] 240)):=Lib.hid (heap_alloc_new wr _);have ZU:B≤(wr.alloc (.cells #[.int .u8 (ch.toNat:Int),.int .i64 rn,.bool ro,.bool rc] 240)).heap.size:=by simp; omega
   have SW:rs.length=runs.length+1:=hlr.out;have hi1:i+1<rs.length:=by omega
   have OA:rs.drop (i+1)=rs[i+1]::rs.drop (i+2):=List.drop_eq_getElem_cons hi1;obtain ⟨Rf,rD⟩:∃ Rf,Rf=rs[i+1]:=⟨_,rfl⟩
   rw [← rD] at OA;have hwd:Il.gC (rs.drop (i+1))=Rf.wt+Il.gC (rs.drop (i+2)):=by rw [OA,Il.gw]
   have Us:Hid (after (Il.pF runs) (fun r=>(Em.get runs r).ch) i Rf.full ((rs.drop (i+2)).map Il.Rw.full) (X.drop k,stk ns)=([],[T])):=Lib.hid (by
    have:=wU.out;rw [OA,List.map_cons] at this;exact this)
   replace hdr:=Lib.hid hdr;replace hat:=Lib.hid hat;replace Ug:=Lib.hid Ug;replace Xe:=Lib.hid Xe;replace OA:=Lib.hid OA;replace rD:=Lib.hid rD;replace SW:=Lib.hid SW;clear wU Vn hqR hF;go_wp2_with fail;obtain ⟨wa,xJ⟩:∃ wa,wa=wr.alloc (.cells #[.int .u8 (ch.toNat:Int),.int .i64 rn,.bool ro,.bool rc] 240):=⟨_,rfl⟩
   obtain ⟨bx,WY⟩:∃ bx,bx=wr.heap.size:=⟨_,rfl⟩
   rw [← xJ] at Bm rB hbc ZU ⊢;rw [← WY] at rB hbc ⊢;clear xJ WY x0c x1c x2c x3c;have hFt:=Bm.out.tu;refine Hl B (az Af 6 7 8 u8 ns V') wa X i (X.countP fun x=>decide (x.1<i)) (M - (2*Il.gC (rs.drop (i+1))+Kn (runs.drop i))) (Il.pF runs) (fun r=>(Em.get runs r).ch) Rf.full ((rs.drop (i+2)).map Il.Rw.full) ([],[T]) Ch.out rfl (by omega) hX4 k A c u8 ns V' wa ⟨Bm.out.rs,Bm.out.pr,Bm.out.cap,Bm.out.kl,Bm.out.ok,Bm.out.rs.hp.refl⟩ Us.out mB.out hle.out (by omega) ZU _ _ _ _ _ _ _ _ _ _ _ _ _ _ _ _ _ _ _ _ _ _ _ _ _ _ _ _ _ _ _ _ _ _ _ _ _ _ _ _ _ _ _ _ _ _ _ _ _ _ _ _ _ _ _ _ _ _ _ _ _ _ _ _ _ _ _ _ _ _ _ _ _ _ _ _ _ _ _ _ _ _ _ _ _ ?_;intro k2 A2 c2 v2 ns2 V2 u36 u37 u38 u39 u40 u41 u42 u43 u44 u45 u46 u47 u48 u49 u50 u51 u52 u53 u54 u55 w5 ⟨Tp,hm5,hc5,Zq,hp5⟩ hstop;have Y5:=Tp.out.tu;have Wy:FS B m4 w4 X k2 A2 c2 v2 ns2 V2 w5:=⟨Tp.out.rs,Tp.out.pr,Tp.out.cap,Tp.out.kl,Tp.out.ok,hFt.trans Y5⟩
   have US:=Y5.fre _ rB.out;have Z4:=Lib.hid (US.1.trans hbc.out);have ZR:=Lib.hid US.2;have ES:=Nat.le_trans ZU Y5.bel.size;have Si:=KM.out.turn Wy.tu;obtain ⟨b2,o2,UJ,OX,hc2⟩:=Si.l.2 (by omega);injection UJ with UJ;injection UJ with e1 e2;subst e1 e2;obtain ⟨b3,o3,FX,XI,hc3⟩:=Si.o.2 (by omega);injection FX with FX;injection FX with e1 e2;subst e1 e2;have hLi:=hL.out i (by have:=Xo.out; omega);have XP:=hO.out i (by have:=Sb.out; omega);rw [P5.out] at hLi;have xl:=hc2 i (.int .i64 ((Il.pF runs i:Nat):Int)) (by
    rw [aB,List.getElem?_map,List.getElem?_eq_getElem (by have:=Xo.out; omega),hLi]; rfl)
   have xo:=hc3 i (.int .i64 ((Il.opn X i:Nat):Int)) (by
    rw [aB,List.getElem?_map,List.getElem?_eq_getElem (by have:=Sb.out; omega),XP]; rfl)
   simp only [Nat.zero_add] at xl xo;have NZ:g1<w5.heap.size:=XI.2.1;have ZL:g2<w5.heap.size:=OX.2.1;have hlf:Il.pF runs i≤rn.toNat:=by
    unfold Il.pF Il.cnt;rw [Xe.out];simp only;omega
   obtain ⟨lf,Ry⟩:∃ lf,lf=Il.pF runs i:=⟨_,rfl⟩
   rw [← Ry] at xl hlf;obtain ⟨op,Hf⟩:∃ op,op=Il.opn X i:=⟨_,rfl⟩
   rw [← Hf] at xo;replace Ry:=Lib.hid Ry;replace Hf:=Lib.hid Hf;have Kj:ns2≠[]:=by
    intro e;have h1:=hm5.out;unfold after Il.ot at h1;rw [hstop,e] at h1;simp only [stk,List.map_nil,List.reverse_nil] at h1;have:=hc5;rw [e] at this;simp only [List.length_nil] at this;have hcl:X.countP (fun x=>decide (x.1<i))+1≤k2:=by omega
    have hkl:=Tp.out.kl;have hcc:(X.countP fun x=>decide (x.1<i))≥(X.take k2).countP (fun x=>decide (x.1<i)):=by
     conv=>lhs; rw [← List.take_append_drop k2 X,List.countP_append]
     omega
    have hall:(X.take k2).countP (fun x=>decide (x.1<i))=(X.take k2).length:=by
     rw [List.countP_eq_length];intro x hx;have h1:=Zq.out x hx;have h2:=(Ch.out x (List.mem_of_mem_take hx)).1;simp; omega
    rw [List.length_take] at hall;omega
   clear hc2 hc3 OX XI Tp Bm rB hbc US Y5 hFt hLi XP;replace Si:=Lib.hid Si;replace Wy:=Lib.hid Wy;replace Kj:=Lib.hid Kj;replace hstop:=Lib.hid hstop;replace hc5:=Lib.hid hc5;obtain ⟨gN2,cN2,rfl,_,_,_⟩:=Wy.out.rs.slice (List.length_pos_iff.2 Kj.out);go_wp2_with fail;have hCX:(X.countP fun x=>decide (x.1<i))≤X.length:=List.countP_le_length;refine MR B m4 w4 X lf bx ch rn ro rc UQ.1 (by omega) k2 A2 c2 _ ns2 V2 w5 Wy.out Kj.out (by have:=hc5.out; omega) (by omega) ES ZR.out Z4.out _ _ _ _ _ _ _ _ _ _ _ _ _ _ _ _ _ _ _ _ _ _ _ _ _ _ _ _ _ _ _ _ _ _ _ _ _ _ _ _ _ _ _ _ _ _ _ _ _ _ _ _ _ _ _ _ _ _ _ _ _ _ _ _ _ _ _ _ _ _ _ _ _ _ _ _ _ _ _ _ _ _ _ _ (fun _ _ d _ _ h=>by cases d<;>exact h) ?_;intro V3 q60 q61 q62 q63 q64 q65 q66 q67 q68 w6 NS Vh;have U4:=KM.out.turn NS.tu;obtain ⟨b3,o3,FX,XI,hc3⟩:=U4.o.2 (by omega);injection FX with FX;injection FX with e1 e2;subst e1 e2;have XP:=hO.out i (by have:=Sb.out; omega);have xo6:=hc3 i (.int .i64 ((op:Nat):Int)) (by
    rw [aB,List.getElem?_map,List.getElem?_eq_getElem (by have:=Sb.out; omega),XP,← Hf.out]; rfl)
   simp only [Nat.zero_add] at xo6;have hg16:g1<w6.heap.size:=XI.2.1;have hopX:op≤X.length:=by rw [Hf.out]; unfold Il.opn; exact List.countP_le_length
   obtain ⟨ns3,FV⟩:∃ ns3,ns3=Il.aX (fun R=>R.say (List.replicate lf ch)) ns2:=⟨_,rfl⟩
   rw [← FV] at NS;have hl3:ns3.length=ns2.length:=by rw [FV,Il.kO]
   have U8:ns3≠[]:=by rw [FV]; exact Il.C4 Kj.out
   have hw3:Il.gC ns3≤Il.gC ns2+lf:=by
    rw [FV];exact Il.jd (fun R=>by rw [Il.Rw.rV,List.length_replicate]; exact Nat.le_refl _) ns2
   have PT:stk ns3=Il.dF (stk ns2) (Il.word (List.replicate lf ch)):=by rw [FV]; exact SZ Kj.out Wy.out.ok _
   have harr:=NS.rs.arr;rw [hl3] at harr;have hlb:ns2.length≤1000000000:=by have:=hc5.out; omega
   have hgrow:=Lib.hid (fun (w':World) (v':Value) (hg:w6.grownBy w' (Value.slice (some ⟨gN2,0,none⟩) ns2.length cN2).ownBlock) (ho:w'.ownsRow B 216 2 v' (ns2.length+op) (aS V3++aS (List.replicate op (.slice none 0 0,.slice none 0 0,[])))) (hat:At w6.heap.size (.slice (some ⟨gN2,0,none⟩) ns2.length cN2) v')=>NS.rs.grow (w':=w') (v':=v') (j:=op) Vh hg (by rw [hl3]; exact ho) hat);replace NS:=Lib.hid NS;replace PT:=Lib.hid PT;replace FV:=Lib.hid FV;replace hl3:=Lib.hid hl3;replace U8:=Lib.hid U8;replace U4:=Lib.hid U4;clear hc3 XI XP xl xo NZ ZL;go_upto_region 16 with fail
   go_upto_region 17 with (at_builtin; refine sB rfl (.tmp 69) (.tmp 73) rfl FO (kn:=.i64) Tryz.underlying3 (z:=.agg #[.slice none 0 0,.slice none 0 0]) (by kernel_rfl) ND rfl harr rfl (by omega) (by omega) Vh ?_; intro v7 w7 HZ qY mF)
   rw [Ji] at HZ;obtain ⟨Mq,t8⟩:=hgrow.out w7 v7 qY.out HZ mF.out;obtain ⟨ns4,LH⟩:∃ ns4,ns4=ns3++List.replicate op Il.Rw.nil:=⟨_,rfl⟩
   rw [← LH] at Mq t8;have O0:ns4≠[]:=by rw [LH]; simp [U8.out]
   have hl4:ns4.length=ns2.length+op:=by rw [LH,List.length_append,List.length_replicate,hl3.out]
   have VQ:∀ R∈ns4,R.ok:=fun R hR=>by
    rw [LH] at hR;rcases List.mem_append.1 hR with h | h
    ·exact NS.out.ok R h
    ·rw [(List.mem_replicate.1 h).2]; exact Il.Rw.EZ
   have hw4:Il.gC ns4=Il.gC ns3:=by
    rw [LH,Il.eu];have:∀ j,Il.gC (List.replicate j Il.Rw.nil)=0:=fun j=>by
     induction j with
     | zero=>rfl
     | succ j ih=>rw [List.replicate_succ,Il.gw,ih]; rfl
    rw [this]; omega
   obtain ⟨V4,hV4⟩:∃ V4,V4=V3++List.replicate op (.slice none 0 0,.slice none 0 0,[]):=⟨_,rfl⟩
   rw [← hV4] at Mq t8;have hF8:FS B m4 w4 X k2 A2 c2 v7 ns4 V4 w7:=⟨Mq,t8.gz NS.out.pr,NS.out.cap,NS.out.kl,VQ,NS.out.tu.trans t8⟩
   have Tz:=Nat.le_trans Vh t8.bel.size;obtain ⟨gN7,cN7,rfl,_,_,_⟩:=Mq.slice (List.length_pos_iff.2 O0);obtain ⟨R,hR1,hR2⟩:=kD O0;have GX:=Il.mc (List.mem_of_getElem? hR1);have VH:=KM.out.turn hF8.tu;have WX:i+1<V.length:=by rw [YK.out,SW.out]; omega
   have Ya:i+1<rs.length:=by rw [SW.out]; omega
   obtain ⟨AJ,cJ,PJ,dJ,ej1,ej2,ej3,ej4,ej5⟩:=VH.rows (i+1) (by omega) Ya WX;rw [← rD.out] at ej1 ej2 ej3 ej4 ej5;obtain ⟨bF,oF,hbF,ZZ,Vm⟩:=VH.flat.2 (by omega);injection hbF with hbF;injection hbF with e1 e2;subst e1 e2;have hv3:=M6 WX;rw [ej1,ej2] at hv3;have xf0:=Vm _ _ hv3.1;have xf1:=Vm _ _ hv3.2;simp only [Nat.zero_add] at xf0 xf1;obtain ⟨cssJ,XU⟩:∃ cs,cs=V[i+1].2.2:=⟨_,rfl⟩
   rw [← XU] at ej3 ej4;have VD:Rf.ok:=by rw [rD.out]; exact hok.out _ (List.getElem_mem Ya)
   have hwf:Rf.wt≤1000000000:=by omega
   have hwR:R.wt≤1000000000:=by omega
   obtain ⟨x1,y1,z1,e1,q1,i1⟩:=Mq.look ⟨by decide,by decide,by decide⟩ hR1;have hc1:=Mq.cn (i:=ns4.length - 1) (g:=gN7) (cp:=cN7) rfl (by have:=List.length_pos_iff.2 O0; omega);have hS:(fun u:World=>u.cell? ⟨gF,(i+1)*2,none⟩=some (.slice AJ Rf.l.length cJ)∧u.cell? ⟨gF,(i+1)*2+1,none⟩=some (.slice PJ Rf.p.length dJ)) w7.drew:=⟨xf0,xf1⟩
   have mY:Hid (Calls Tryz.prog 206 #[.pointer (some ⟨gN7,(ns4.length - 1)*2,none⟩),.agg #[.slice AJ Rf.l.length cJ,.slice PJ Rf.p.length dJ]] w7.drew fun e w'=>e=.returned (.tuple #[])∧∃ V9,FS B m4 w4 X k2 A2 c2 (.slice (some ⟨gN7,0,none⟩) ns4.length cN7) (Il.aX (fun R=>R.join Rf) ns4) V9 w'∧(fun u:World=>u.cell? ⟨gF,(i+1)*2,none⟩=some (.slice AJ Rf.l.length cJ)∧u.cell? ⟨gF,(i+1)*2+1,none⟩=some (.slice PJ Rf.p.length dJ)) w'∧B≤w'.heap.size):=Lib.hid (by
    have hq:Hq w7.drew B (aN (az Af 6 7 8 (.slice (some ⟨gN7,0,none⟩) ns4.length cN7) ns4 V4) (mz 6 7 8 (ns4.length - 1)) (BX (.slice (some ⟨gN7,0,none⟩) ns4.length cN7) ns4.length V4 (ns4.length - 1)) R x1 y1 z1):=q1.nB.hp;refine (LG (eR ⟨by decide,by decide,by decide⟩ (ns4.length - 1)) hc1 hq (q1.nB.kids i1) Tz hwR Rf VD hwf AJ cJ cssJ PJ dJ (by rw [e1]; exact Mq.hp.nB.gz ej3) (by rw [e1]; exact Mq.hp.nB.kids ej4) (by rw [e1]; exact Mq.hp.nB.gz ej5)).mono ?_;rintro e w' ⟨rfl,vi',vp',css',t,hI'⟩;obtain ⟨hR9,YV⟩:=Mq.turned (w':=w') ⟨by decide,by decide,by decide⟩ hR1 e1 (q1.nB.trans t) hI';rw [← hR2 (fun R=>R.join Rf)] at hR9 YV;have LU:=YV.fre gF ZZ;exact ⟨rfl,_,hF8.say (fun R hR=>(Il.Rw.Ei hR VD).1) hR9 YV,⟨fE LU.1 _ xf0,fE LU.1 _ xf1⟩,Nat.le_trans Tz YV.bel.size⟩)
   have b8:=Lib.hid (fun w=>gT gN7 ns4.length cN7 (List.length_pos_iff.2 O0) (by have:=hc5.out; omega) w);have VS:Hid (Il.nE (Il.pF runs) (fun r=>(Em.get runs r).ch) (i+1) ((rs.drop (i+1+1)).map Il.Rw.full) (X.drop k2,stk (Il.aX (fun R=>R.join Rf) ns4))=([],[T])):=Lib.hid (by
    rw [NG O0 VQ VD,LH,OW,PT.out];have h1:=hm5.out;unfold after Il.ot at h1;simp only [hstop.out] at h1;rw [Pv (fun x hx=>(Ch.out x hx).1) Zq.out,← Hf.out,← Ry.out,Xe.out] at h1;exact h1)
   have Xc:Hid ((Il.aX (fun R=>R.join Rf) ns4).length+k2=1+X.countP fun x=>decide (x.1<i+1)):=Lib.hid (by
    rw [Il.kO,hl4,Fi,← Hf.out];have:=hc5.out;omega)
   have No:Hid (∀ x∈X.take k2,x.2.1≤i+1):=Lib.hid (fun x hx=>Nat.le_succ_of_le (Zq.out x hx));have hwj:Il.gC (Il.aX (fun R=>R.join Rf) ns4)≤Il.gC ns4+2*Rf.wt:=Il.jd (fun R=>Il.Rw.QU R Rf) ns4;have Xr:Il.gC (Il.aX (fun R=>R.join Rf) ns4)+2*(X.length - k2)+2*Il.gC (rs.drop (i+1+1))+Kn (runs.drop (i+1))≤M:=by
    show _+_+2*Il.gC (rs.drop (i+2))+_≤M;omega
   have hgFl:gF<w7.heap.size:=ZZ.2.1;obtain ⟨nm,hnm⟩:∃ nm,nm=(ns4.length - 1)*2:=⟨_,rfl⟩
   rw [← hnm] at b8 mY;obtain ⟨n4,hn4⟩:∃ n4,n4=ns4.length:=⟨_,rfl⟩
   rw [← hn4] at b8 mY ⊢;have hif:((i:Int)+1)<(nf:Int):=by omega
   have hif0:(0:Int)≤(i:Int)+1:=by omega
   have hwi:(((i:Int)+1).toNat)=i+1:=by omega
   have hwrp:IntKind.i64.wrap ((i:Int)+1)=(i:Int)+1:=by rw [IntKind.wrap_i64]; omega
   have hif2:(i:Int)+1<(n:Int)+1:=by omega
   clear hnm hn4 Mq t8 hF8 VH ej1 ej2 ej3 ej4 ej5 Vm hv3 xf0 xf1 q1 i1 hc1 e1 hR1 hR2 GX VQ ZZ;go_upto_region 17 with fail
   refine aE (.rd 0 (.rd 2 (.rd 3 (.rd 4 (.rd 5 (.rd 6 (.mk 1 (.mk 7 .fin)))))))) (fun u:World=>u.cell? ⟨gF,(i+1)*2,none⟩=some (.slice AJ Rf.l.length cJ)∧u.cell? ⟨gF,(i+1)*2+1,none⟩=some (.slice PJ Rf.p.length dJ)) hS (by kernel_rfl) (by kernel_rfl) (by kernel_rfl) (fun _ _ d _ _ h=>by cases d<;>exact h) ?_
   iterate 5 (first | refine an rfl ?_ | (refine ay rfl ?_; intro K hK; go_simp; refine hK _ _ _ ?_; clear hK K))
   refine aH (.agg #[.slice AJ Rf.l.length cJ,.slice PJ Rf.p.length dJ]) rfl rfl hS (fun u hu=>by obtain ⟨h1,h2⟩:=hu; go_simp) ?_;refine aC rfl ?_;intro K hK;go_simp;refine (b8.out _).mono ?_;rintro e w8 ⟨rfl,rfl⟩;refine ⟨_,hS,fun _ h=>h,hK _ _ _ ?_⟩;clear hK K;refine aC rfl ?_;intro K hK;go_simp;refine mY.out.mono ?_;rintro e w9 ⟨rfl,V9,Z7,hS9,SD⟩;refine ⟨_,hS9,fun _ h=>h,hK _ _ _ ?_⟩;clear hK K hS hS9 mY b8;replace Z7:=Lib.hid Z7;refine aM ?_;go_wp2_with fail
   go_roundw
   case rel=>exact ⟨i+1,k2,A2,c2,_,_,V9,rfl,rfl,by go_num,by omega,Z7,VS,Xc,No,Xr,SD⟩
   case measure=>simp [intOf]; omega
  ·have hin:i=n:=by omega
   subst hin;have hend:=wU.out;rw [List.drop_eq_nil_of_le (by rw [hlr.out,← hnn.out]; omega)] at hend;have hst:stk ns=[T]:=congrArg Prod.snd hend;have hl1:ns.length=1:=by rw [← Q6,hst]; rfl
   obtain ⟨R,rfl⟩:∃ R,ns=[R]:=List.length_eq_one_iff.1 hl1;have ZV:R.full=T:=by simpa [stk] using hst
   obtain ⟨gN2,cN2,rfl,_,_,_⟩:=hF.out.rs.slice (by simp);obtain ⟨x1,y1,z1,e1,q1,i1⟩:=hF.out.rs.look (i:=0) (R:=R) ⟨by decide,by decide,by decide⟩ rfl;have hc1:=hF.out.rs.cn (i:=0) (g:=gN2) (cp:=cN2) rfl (by simp);have GX:R.wt≤Il.gC [R]:=by simp [Il.gC]
   have hRb:R.p.length≤1000000000∧R.l.length≤1000000000:=by unfold Il.Rw.wt at GX; omega
   have hall:=Lib.hid (j7 (eR ⟨by decide,by decide,by decide⟩ 0) hc1 q1 i1 ug (by omega) (by omega));have b8:=fun w=>gT gN2 1 cN2 (by omega) (by omega) w;have htu:=Lib.hid hF.out.tu.bel;have hbt:=Lib.hid tot.out.bel;clear q1 i1 e1 hc1 hF wU hend hst GX mB hle aab;replace ZV:=Lib.hid ZV;simp only [List.length_singleton] at *;go_wp2_with fail;refine (b8 _).mono ?_;rintro e w8 ⟨rfl,rfl⟩;go_wp2_with fail;refine hall.out.mono ?_;rintro e w9 ⟨v9,rfl,vp9,css9,t9,XZ⟩;have hown:w9.ownsRow B 35 4 v9 R.full.length css9.flatten:=t9.hp.holds _ _ (gP (eR ⟨by decide,by decide,by decide⟩ 0));have cL:=gO (w':=w9) (Q':=fun b=>B≤b∧b<w9.heap.size) (fun _ _=>rfl) (fun b hb=>⟨hb.1,hb.2.1⟩) XZ;have hbel:=Lib.hid (hbt.out.trans (htu.out.trans t9.bel));replace hown:=Lib.hid hown;replace cL:=Lib.hid cL;rw [ZV.out] at hown cL;clear t9 XZ hall;go_wp2_with fail;go_ret;exact ⟨_,rfl,css9,hown.out,cL.out,hbel.out⟩
end Go.Proofs.YtddkjkockbcamaaGreatDoor

set_option maxHeartbeats 16000000
set_option maxRecDepth 100000
namespace Go.Proofs.YtddkjkockbcamaaGreatDoor
open Go.RowKit
theorem Gj {m:Ky→Option Pa} {vF:Value} {R:Il.Rw} {V:List V3} {w:World} {B:Nat} {AR:Option Addr} {cR:Nat} (h:RS w B m 3 4 5 vF [R] V) (hB:B≤w.heap.size) (hw:R.wt≤1000000000) :
  Calls Tryz.prog 174 #[vF,.slice AR 0 cR] w fun e w'=>∃ v,e=.returned v∧∃ css,w'.ownsRow B 35 4 v R.full.length css.flatten∧gA w' (fun b=>B≤b∧b<w'.heap.size) R.full css∧Below B w w':=by
 obtain ⟨g,cp,rfl,_,_,_⟩:=h.slice (by simp);obtain ⟨x1,y1,z1,e1,q1,i1⟩:=h.look (i:=0) (R:=R) ⟨by decide,by decide,by decide⟩ rfl;have hc1:=h.cn (i:=0) (g:=g) (cp:=cp) rfl (by simp);have hRb:R.p.length≤1000000000∧R.l.length≤1000000000:=by unfold Il.Rw.wt at hw; omega
 have hall:=Lib.hid (j7 (eR ⟨by decide,by decide,by decide⟩ 0) hc1 q1 i1 hB (by omega) (by omega));clear h e1 q1 i1 hc1 hRb;simp only [List.length_singleton];go_enter Tryz.func174,Tryz.ntmps174;go_wp2_with fail;refine hall.out.mono ?_;rintro e w9 ⟨v9,rfl,vp9,css9,t9,XZ⟩;have hown:w9.ownsRow B 35 4 v9 R.full.length css9.flatten:=t9.hp.holds _ _ (gP (eR ⟨by decide,by decide,by decide⟩ 0));have cL:=gO (w':=w9) (Q':=fun b=>B≤b∧b<w9.heap.size) (fun _ _=>rfl) (fun b hb=>⟨hb.1,hb.2.1⟩) XZ;have hbel:=Lib.hid t9.bel;replace hown:=Lib.hid hown;replace cL:=Lib.hid cL;clear t9 XZ hall;go_wp2_with fail;go_ret;exact ⟨_,rfl,css9,hown.out,cL.out,hbel.out⟩
theorem Kg {m:Ky→Option Pa} {vF:Value} {rs:List Il.Rw} {V:List V3} {w:World} {B:Nat} {AR:Option Addr} {cR i:Nat} (st:Il.Sc) (h:RS w B m 3 4 5 vF rs V) (hB:B≤w.heap.size) (tK:m (1,0)=some (.row 240 4 (.slice AR st.runs.length cR) st.runs.length (aF st.runs)))
  (hrel:Il.Rel rs st) (hsc:Il.fA st i) (hi:i≤4000000) (hch:∀ r∈st.runs,r.ch.toNat<128) (hwt:Il.gC rs≤64000000) (hct:Kn st.runs≤4000000) :
  Calls Tryz.prog 174 #[vF,.slice AR st.runs.length cR] w fun e w'=>∃ v,e=.returned v∧∃ css,w'.ownsRow B 35 4 v (Il.dZ st.l st.runs).length css.flatten∧gA w' (fun b=>B≤b∧b<w'.heap.size) (Il.dZ st.l st.runs) css∧Below B w w':=by
 have hfr:=Il.I7 hrel hsc
 by_cases h0:st.runs=[]
 ·obtain ⟨R,Rs,rfl,e2⟩:=hfr
  have hl:=hrel.len;rw [h0] at hl e2;have hRs:Rs=[]:=by
   cases Rs with
   | nil=>rfl
   | cons a b=>simp at hl
  subst hRs;have e3:R.full=Il.dZ st.l st.runs:=by
   have h2:=congrArg Prod.snd e2;rw [h0];have e4:[R.full]=[Il.dZ st.l []]:=h2;injection e4
  rw [← e3,h0];exact Gj h hB (Nat.le_trans (Il.mc (List.mem_singleton.2 rfl)) (by omega))
 ·have hp:1≤st.runs.length:=List.length_pos_iff.2 h0
  exact Fe st.runs _ h hB tK hrel.len (Nat.le_trans hsc.rlen hi) hp hrel.ok (fun r hr=>⟨hch r hr,hsc.pos r hr⟩) hwt hct hfr
end Go.Proofs.YtddkjkockbcamaaGreatDoor

set_option maxHeartbeats 16000000
set_option maxRecDepth 100000
namespace Go.Proofs.YtddkjkockbcamaaGreatDoor
open Go.RowKit Go.Maps
def BY (s:List UInt8) (link:Bool) (gm:Nat) (vr vF:Value):Array Value:=#[.string (bs s),.bool link,.string (bs s),.map (some gm),vr,vF]
def qn (bR gm nm:Nat) (s:List UInt8) (link:Bool) (D:DataW Unit) (vr vF:Value) (runs:List Em.R):Ky→Option Pa:=fun q =>
 if q=(0,0) then some (.blk bR (BY s link gm vr vF) 221)
 else if q=(1,0) then some (.row 240 4 vr runs.length (aF runs))
 else if q=(2,0) then some (.map gm nm D) else none
def closing (s:List UInt8) (i:Nat):Nat:=(Lk.close s (i:Int)).getD s.length
def jA (s:List UInt8) (D:DataW Unit):Prop:=∀ i:Nat,Maps.has D (.int .i64 (i:Int))=true→(i<s.length∧s.getD i 0=91)∧D.atKey (.int .i64 (i:Int)) (.lit (.int .i64 0))=.lit (.int .i64 (closing s i:Int))
structure RD (w:World) (B bR:Nat) (s:List UInt8) (link:Bool) (st:Il.Sc) (gm nm:Nat) (D:DataW Unit) (vr vF:Value) (rs:List Il.Rw) (V:List V3):Prop where
 rw:RS w B (qn bR gm nm s link D vr vF st.runs) 3 4 5 vF rs V
 rel:Il.Rel rs st
 ends:jA s D
def bJ (w:World) (B bR:Nat) (s:List UInt8) (link:Bool) (st:Il.Sc) (i mk:Nat):Prop :=
 B≤w.heap.size∧∃ gm nm D vr vF rs V,RD w B bR s link st gm nm D vr vF rs V∧Il.gC rs≤16*i∧nm≤mk
section
variable {w w':World} {B bR:Nat} {s:List UInt8} {link:Bool} {st:Il.Sc} {gm nm:Nat} {D:DataW Unit} {vr vF:Value} {rs:List Il.Rw} {V:List V3}
theorem RD.blk (h:RD w B bR s link st gm nm D vr vF rs V):w.heap[bR]?=some (.cells (BY s link gm vr vF) 221 (0,0))∧B≤bR∧bR<w.heap.size:=by
 have hk:az (qn bR gm nm s link D vr vF st.runs) 3 4 5 vF rs V (0,0)=some (.blk bR (BY s link gm vr vF) 221):=by
  unfold az qn;rw [if_neg (by simp),if_neg (by simp),if_neg (by simp),if_pos rfl]
 have h1:=h.rw.hp.holds _ _ hk;exact ⟨h1.2,h1.1,(Array.getElem?_eq_some_iff.1 h1.2).1⟩
theorem RD.cells (h:RD w B bR s link st gm nm D vr vF rs V):w.cell? ⟨bR,0,none⟩=some (.string (bs s))∧w.cell? ⟨bR,1,none⟩=some (.bool link)∧w.cell? ⟨bR,2,none⟩=some (.string (bs s))∧w.cell? ⟨bR,3,none⟩=some (.map (some gm))∧w.cell? ⟨bR,4,none⟩=some vr∧w.cell? ⟨bR,5,none⟩=some vF∧(∀ j,w.frozen? ⟨bR,j,none⟩=false):=by
 have hb:=h.blk.1;exact ⟨ah hb 0,ah hb 1,ah hb 2,ah hb 3,ah hb 4,ah hb 5,aW hb⟩
theorem RD.ext (h:RD w B bR s link st gm nm D vr vF rs V) (hB:B≤w.heap.size) (hb:Below w.heap.size w w'):RD w' B bR s link st gm nm D vr vF rs V:=⟨h.rw.ext hB hb,h.rel,h.ends⟩
theorem RD.ne (h:RD w B bR s link st gm nm D vr vF rs V):rs≠[]:=by
 have:=h.rel.len;intro e; rw [e] at this; simp at this
theorem RD.last (h:RD w B bR s link st gm nm D vr vF rs V) {R:Il.Rw} (hR:rs[rs.length - 1]?=some R) (f:Il.Rw→Il.Rw) {st':Il.Sc} (hrel:Il.Rel (Il.aX f rs) st') (tK:st'.runs=st.runs) (hf:Il.aX f rs=rs.set (rs.length - 1) (f R))
  {x0 y0 x y:Value} {z0 z:List (List Value)} (he:aN (az (qn bR gm nm s link D vr vF st.runs) 3 4 5 vF rs V) (mz 3 4 5 (rs.length - 1)) (BX vF rs.length V (rs.length - 1)) R x0 y0 z0=az (qn bR gm nm s link D vr vF st.runs) 3 4 5 vF rs V)
  (t:bT B (aN (az (qn bR gm nm s link D vr vF st.runs) 3 4 5 vF rs V) (mz 3 4 5 (rs.length - 1)) (BX vF rs.length V (rs.length - 1)) R x0 y0 z0) w (aN (az (qn bR gm nm s link D vr vF st.runs) 3 4 5 vF rs V) (mz 3 4 5 (rs.length - 1)) (BX vF rs.length V (rs.length - 1)) (f R) x y z) w')
  (hI:gA w' (Fr w' B (aN (az (qn bR gm nm s link D vr vF st.runs) 3 4 5 vF rs V) (mz 3 4 5 (rs.length - 1)) (BX vF rs.length V (rs.length - 1)) (f R) x y z)) (f R).l z):RD w' B bR s link st' gm nm D vr vF (Il.aX f rs) (V.set (rs.length - 1) (x,y,z))∧Below B w w':=by
 obtain ⟨h1,h2⟩:=h.rw.turned ⟨by decide,by decide,by decide⟩ hR he t hI;rw [← hf] at h1;refine ⟨⟨?_,hrel,h.ends⟩,t.bel⟩;rw [tK]; exact h1
theorem G6 (h:RD w B bR s link st gm nm D vr vF rs V) (hB:B≤w.heap.size) (r:Nat) (hr:Ru.vr r) (hw:Il.gC rs≤64000000) (hbig:rs.length≤1000000000):∃ g c,vF=.slice (some ⟨g,0,none⟩) rs.length c∧0<rs.length ∧
  Calls Tryz.prog 205 #[.pointer (some ⟨g,(rs.length - 1)*2,none⟩),.int .i32 (r:Int)] w fun e w'=>e=.returned (.tuple #[])∧∃ V',RD w' B bR s link ⟨Il.eY st.l (Lib.encodeRune (r:Int)),st.runs⟩ gm nm D vr vF (Il.aX (fun R=>R.say (Lib.encodeRune (r:Int))) rs) V'∧Below B w w':=by
 have hp:=List.length_pos_iff.2 h.ne;obtain ⟨g,c,hv,hc,_,_⟩:=h.rw.slice hp;obtain ⟨R,hR1,hR2⟩:=kD h.ne;have GX:=Il.mc (List.mem_of_getElem? hR1);obtain ⟨x1,y1,z1,e1,q1,i1⟩:=h.rw.look ⟨by decide,by decide,by decide⟩ hR1;have hc1:=h.rw.cn (i:=rs.length - 1) hv (by omega);refine ⟨g,c,hv,hp,(iO (eR ⟨by decide,by decide,by decide⟩ (rs.length - 1)) hc1 q1 hB r hr (by unfold Il.Rw.wt at GX; omega)).mono ?_⟩;rintro e w' ⟨rfl,vp',t⟩;exact ⟨rfl,_,(h.last hR1 (fun R=>R.say (Lib.encodeRune (r:Int))) (Il.H8 h.rel (Il.Me hr)) rfl (hR2 _) e1 t (t.kids i1))⟩
end
end Go.Proofs.YtddkjkockbcamaaGreatDoor

set_option maxHeartbeats 16000000
set_option maxRecDepth 100000
namespace Go.Proofs.YtddkjkockbcamaaGreatDoor
open Go.RowKit Go.Maps
attribute [local go_sem] aD av aq
section
variable {w:World} {B bR:Nat} {s:List UInt8} {link:Bool} {st:Il.Sc} {i mk:Nat}
theorem bJ.lV {w:World} (ok:Il.fA st i) (hi:i≤s.length) (hs:s.length≤4000000) {gm nm:Nat} {D:DataW Unit} {vr vF:Value} {rs:List Il.Rw} {V:List V3} (h:RD w B bR s link st gm nm D vr vF rs V):rs.length≤4000001:=by
 have h1:=h.rel.len;have h2:=ok.rlen;omega
theorem kr (h:bJ w B bR s link st i mk) (ok:Il.fA st i) (hi:i<s.length) (hs:s.length≤4000000) :
  Calls Tryz.prog 199 #[.pointer (some ⟨bR,0,none⟩),.int .i64 (i:Int)] w fun e w'=>e=.returned (.int .i64 ((Es.next s i).2.1:Int)) ∧
   bJ w' B bR s link ⟨Il.eY st.l (Lib.encodeRune ((Es.next s i).1:Int)),st.runs⟩ (Es.next s i).2.1 mk∧Below B w w':=by
 obtain ⟨hB,gm,nm,D,vr,vF,rs,V,hR,hw,hnm⟩:=h;obtain ⟨hm1,hm2⟩:=Es.eI hi;have hl1:=bJ.lV ok (by omega) hs hR;have hV:mq s i=.tuple #[.int .i32 ((Es.next s i).1:Int),.int .i64 ((Es.next s i).2.1:Int),.bool (Es.next s i).2.2]:=rfl;have Cv:=Es.Ij s i;have hnext:=Lib.hid (nX s (i:Int) (by omega) w trivial);rw [show ((i:Int)).toNat=i from by omega,hV] at hnext;clear hV;obtain ⟨x,hx⟩:∃ x,x=(Es.next s i).1:=⟨_,rfl⟩
 obtain ⟨n,hn⟩:∃ n,n=(Es.next s i).2.1:=⟨_,rfl⟩
 obtain ⟨o,ho⟩:∃ o,o=(Es.next s i).2.2:=⟨_,rfl⟩
 rw [← hx,← hn,← ho] at hnext;rw [← hn] at hm1 hm2;rw [← hx] at Cv;rw [← hx,← hn];clear hx hn ho;obtain ⟨f0,f1,f2,f3,f4,f5,f6⟩:=hR.cells;have hp:=List.length_pos_iff.2 hR.ne;obtain ⟨g,c,rfl,_,_,_⟩:=hR.rw.slice hp;have EC:=Lib.hid (fun (w1:World) (hb:Below w.heap.size w w1)=>G6 (hR.ext hB hb) (Nat.le_trans hB hb.size) x Cv (by omega) (by omega));have hcl:=Lib.hid (fun (w1:World) (hb:Below w.heap.size w w1)=>(hR.ext hB hb).cells);have b8:=Lib.hid (fun w=>gT g rs.length c hp (by omega) w);have hwl:=Il.jd (f:=fun R=>R.say (Lib.encodeRune (x:Int))) (k:=4) (fun R=>by
  rw [Il.Rw.rV];have:=(Ru.fT [x]).2;simp [Ru.enc] at this;omega) rs
 replace hwl:=Lib.hid hwl;clear hR;go_enter Tryz.func199,Tryz.ntmps199;go_wp2_with fail;refine hnext.out.mono ?_;rintro e w1 ⟨rfl,hb1⟩;have DJ:=Lib.hid hb1;obtain ⟨c0,c1,c2,c3,c4,c5,c6⟩:=hcl.out w1 hb1;obtain ⟨g',c',hv',_,DS⟩:=EC.out w1 hb1;obtain ⟨rfl,rfl⟩:g=g'∧c=c':=by injection hv' with h1 h2 h3; injection h1 with h1; injection h1 with h1; exact ⟨h1,h3⟩
 replace DS:=Lib.hid DS;clear f0 f1 f2 f3 f4 f5 f6 EC hcl hnext hb1 hv';go_wp2_with fail;refine (b8.out _).mono ?_;rintro e w2 ⟨rfl,rfl⟩;go_wp2_with fail;refine DS.out.mono ?_;rintro e w3 ⟨rfl,V',oo,hb3⟩;have hb:=(DJ.out.mono hB).trans hb3;replace oo:=Lib.hid oo;replace hb:=Lib.hid hb;clear c0 c1 c2 c3 c4 c5 c6 hb3;go_wp2;go_ret;exact ⟨rfl,⟨Nat.le_trans hB hb.out.size,gm,nm,D,vr,_,_,V',oo.out,by have:=hwl.out; omega,by omega⟩,hb.out⟩
end
end Go.Proofs.YtddkjkockbcamaaGreatDoor
