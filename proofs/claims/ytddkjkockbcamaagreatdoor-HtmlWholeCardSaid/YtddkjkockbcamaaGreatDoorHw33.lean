/- IlPClose IlPFsay IlPFoldM IlPFoldS IlPFold IlPFoldN IlPRd IlPRd2 -/
import Derived.Test.YtddkjkockbcamaaGreatDoorHw21
import Derived.Test.YtddkjkockbcamaaGreatDoorHw09
import Derived.Test.YtddkjkockbcamaaGreatDoorHw02
import Derived.Test.YtddkjkockbcamaaGreatDoorHw31
import Derived.Test.YtddkjkockbcamaaGreatDoorHw28
set_option maxHeartbeats 16000000
set_option maxRecDepth 100000
namespace Go.Proofs.YtddkjkockbcamaaGreatDoor
open Go.RowKit
abbrev Ds:Ky→Option Pa:=fun _=>none
structure FS (B:Nat) (m0:Ky→Option Pa) (w0:World) (X:List (Nat×Nat×Nat)) (k:Nat) (A:Option Addr) (c:Nat) (v:Value) (ns:List Il.Rw) (V:List V3) (w:World):Prop where
 rs:RS w B Ds 6 7 8 v ns V
 pr:e9 w (Fr w B (aA Ds 6 7 8 v ns V)) 3 A (X.length-k) (iE (X.drop k))
 cap:X.length-k≤c
 kl:k≤X.length
 ok:∀ R∈ns,R.ok
 tu:b7 B m0 w0 (aA Ds 6 7 8 v ns V) w
def stk (ns:List Il.Rw):List (List Il.In):=(ns.map Il.Rw.full).reverse
theorem Vq (N:List Il.Rw) (R K:Il.Rw):stk (N++[R]++[K])=K.full::R.full::stk N:=by simp [stk]
theorem sI (N:List Il.Rw) (R:Il.Rw):stk (N++[R])=R.full::stk N:=by simp [stk]
def after (LF:Nat→Nat) (ch:Nat→UInt8) (i:Nat) (F:List Il.In) (Fs:List (List Il.In)) (S:Il.Sk):Il.Sk :=
 Il.oI LF ch (i+1) Fs ((Il.qj LF i (ch i) S).1,Il.iQ (Il.qj LF i (ch i) S).2 F)
theorem EZ {LF:Nat→Nat}{ch:Nat→UInt8}{i:Nat}{F:List Il.In}{Fs:List (List Il.In)}{x:Nat×Nat×Nat}{X:List (Nat×Nat×Nat)}{st:List (List Il.In)}(h:x.2.1=i):after LF ch i F Fs (x::X,st)=after LF ch i F Fs (X,Il.Tf st x.2.2):=by
 unfold after Il.qj;have e:Il.closeAll i (x::X) st=Il.closeAll i X (Il.Tf st x.2.2):=by
  conv=>lhs;unfold Il.closeAll
  rw [if_pos h]
 simp only [e]
theorem AB {i:Nat}{x:Nat×Nat×Nat}{X:List (Nat×Nat×Nat)}{st:List (List Il.In)}(h:x.2.1≠i):Il.closeAll i (x::X) st=(x::X,st):=by unfold Il.closeAll;rw [if_neg h]
theorem On (A:Option Addr) (n c:Nat) (h:1≤n) (w:World):(Instr.slice 236 (.slice A n c) (some (.int .i64 1)) none none).run Tryz.prog w=.ok (.slice (wv 3 A c 1) (n-1) (c-1)) w:=by
 have hT:Tryz.prog.underlying 236=some (.slice (Tryz.prog.elem 236)):=by kernel_rfl
 have hsz:∀ w,(sizeOf (Tryz.prog.elem 236)).run Tryz.prog w=.ok 3 w:=fun w=>by kernel_rfl
 rw [run_slice_l w 236 A n c hT .i64 1 (by omega) (by omega),hsz];simp [sliced,wv,Result.andThen]
theorem RQ {w:World}{Q:Nat→Prop}{size n:Nat}{A:Option Addr}{xs:List Value}(h:e9 w Q size A n xs) {c lo:Nat}(h1:lo≤n) (h3:n≤c) :
  e9 w Q size (wv size A c lo) (n-lo) (xs.drop (lo*size)):=by
 refine ⟨by rw [List.length_drop,h.1,Nat.sub_mul],fun hn=>?_⟩;obtain ⟨b,o,rfl,hb,hc⟩:=h.2 (by omega);refine ⟨b,o+lo*size,?_,hb,fun j u hu=>?_⟩
 ·unfold wv
  rw [if_neg (by omega)];simp only [Option.map_some,Addr.add]
  split
  ·rename_i h0;rw [h0];rfl
  ·rfl
 ·have:=hc (lo*size+j) u (by rwa [List.getElem?_drop] at hu)
  rwa [← Nat.add_assoc] at this
theorem FO (X:List (Nat×Nat×Nat)) (k:Nat):(iE (X.drop k)).drop 3=iE (X.drop (k+1)):=by
 rcases Nat.lt_or_ge k X.length with h | h
 ·rw [List.drop_eq_getElem_cons h];rfl
 ·rw [List.drop_eq_nil_of_le h,List.drop_eq_nil_of_le (show X.length≤k+1 by omega)];rfl
theorem Js {X:List (Nat×Nat×Nat)}{k i:Nat}(hk:k<X.length) (hg:∀ x∈X,x.1<x.2.1) (hle:∀ x∈X.take k,x.2.1≤i) (hx:X[k].2.1=i):k+1≤X.countP fun x=>decide (x.1<i):=by
 have h1:(X.take (k+1)).countP (fun x=>decide (x.1<i))=(X.take (k+1)).length:=by
  rw [List.countP_eq_length];intro x hx2;rw [List.take_succ_eq_append_getElem hk] at hx2;rcases List.mem_append.1 hx2 with h | h
  ·have:=hle x h
   have:=hg x (List.mem_of_mem_take h);simp;omega
  ·obtain rfl:=List.mem_singleton.1 h
   have:=hg _ (List.getElem_mem hk);simp;omega
 have h2:X.countP (fun x=>decide (x.1<i))=(X.take (k+1)).countP (fun x=>decide (x.1<i))+(X.drop (k+1)).countP (fun x=>decide (x.1<i)):=by
  rw [← List.countP_append,List.take_append_drop]
 rw [List.length_take] at h1;omega
theorem Ql {α:Type}{l:List α}(h:2≤l.length):∃ N R K,l=N++[R]++[K]:=by
 rcases List.eq_nil_or_concat l with e | ⟨o,K,e⟩
 ·subst e;simp at h
 ·rw [List.concat_eq_append] at e
  subst e;rcases List.eq_nil_or_concat o with e | ⟨N,R,e⟩
  ·subst e;simp at h
  ·rw [List.concat_eq_append] at e
   subst e;exact ⟨N,R,K,rfl⟩
def Ey:Value→Nat
 | .slice _ n _=>n
 | _=>0
theorem Kh (B:Nat) (m0:Ky→Option Pa) (w0:World) (X:List (Nat×Nat×Nat)) (i C M:Nat) (LF:Nat→Nat) (ch:Nat→UInt8) (F:List Il.In) (Fs:List (List Il.In)) (fin:Il.Sk) (hg:∀ x∈X,x.1<x.2.1∧x.2.1≤4000000∧x.2.2≤2) (hC:C=X.countP fun x=>decide (x.1<i)) (hM:M≤1000000000) (Yu:X.length≤400000000)
  (k:Nat) (A:Option Addr) (c:Nat) (v:Value) (ns:List Il.Rw) (V:List V3) (w:World) (h0:FS B m0 w0 X k A c v ns V w) (h1:after LF ch i F Fs (X.drop k,stk ns)=fin) (h2:ns.length+k=1+C) (h3:∀ x∈X.take k,x.2.1≤i) (h4:Il.ij ns+2*(X.length-k)≤M) (hB:B≤w.heap.size)
  (s0 s1 s2 s3 s4 s6 s7 s10 s11 s12 s13 s14 s15 s16 s17 s18 s19 s20 s21 s22 s23 s24 s25 s26 s27 s28 s29 s30 s31 s32 s33 s34 s35 s36 s37 s38 s39 s40 s41 s42 s43 s44 s45 s46 s47 s48 s49 s50 s51 s52 s53 s54 s55 s56 s57 s58 s59 s60 s61 s62 s63 s64 s65 s66 s67 s68 s69 s70 s71 s72 s73 s74 s75 s76 s77 s78 s79 s80 s81 s82 s83 s84 s85 s86:Value) (Q0:Exit→Act→World→Prop)
  (dV:∀ (k':Nat) (A':Option Addr) (c':Nat) (v':Value) (ns':List Il.Rw) (V':List V3) (u36 u37 u38 u39 u40 u41 u42 u43 u44 u45 u46 u47 u48 u49 u50 u51 u52 u53 u54 u55:Value) (wq:World),Hid (FS B m0 w0 X k' A' c' v' ns' V' wq)∧Hid (after LF ch i F Fs (X.drop k',stk ns')=fin)∧(ns').length+k'=1+C∧Hid (∀ x∈X.take k',x.2.1≤i)∧Il.ij ns'+2*(X.length-k')≤M→Il.closeAll i (X.drop k') (stk ns')=(X.drop k',stk ns')→Q0 (.exit 2) ⟨(s0::s1::s2::s3::s4 :: .slice A' (X.length-k') c'::s6::s7::v' :: .int .i64 (i:Int)::s10::s11::s12::s13::s14::s15::s16::s17::s18::s19::s20::s21::s22::s23::s24::s25::s26::s27::s28::s29::s30::s31::s32::s33::s34::s35::u36::u37::u38::u39::u40::u41::u42::u43::u44::u45::u46::u47::u48::u49::u50::u51::u52::u53::u54::u55::s56::s57::s58::s59::s60::s61::s62::s63::s64::s65::s66::s67::s68::s69::s70::s71::s72::s73::s74::s75::s76::s77::s78::s79::s80::s81::s82::s83::s84::s85::s86::[]).toArray,[]⟩ wq) :
  Code.wp Tryz.prog (Code.loop (r6 Tryz.f174 1)) Q0 ⟨(s0::s1::s2::s3::s4 :: .slice A (X.length-k) c::s6::s7::v :: .int .i64 (i:Int)::s10::s11::s12::s13::s14::s15::s16::s17::s18::s19::s20::s21::s22::s23::s24::s25::s26::s27::s28::s29::s30::s31::s32::s33::s34::s35::s36::s37::s38::s39::s40::s41::s42::s43::s44::s45::s46::s47::s48::s49::s50::s51::s52::s53::s54::s55::s56::s57::s58::s59::s60::s61::s62::s63::s64::s65::s66::s67::s68::s69::s70::s71::s72::s73::s74::s75::s76::s77::s78::s79::s80::s81::s82::s83::s84::s85::s86::[]).toArray,[]⟩ w:=by
 replace dV:=Lib.hid dV;replace h0:=Lib.hid h0;replace h1:=Lib.hid h1;replace h3:=Lib.hid h3;replace hg:=Lib.hid hg;replace hC:=Lib.hid hC;have hBw:Hid (∀ u,Below B w u→B≤u.heap.size):=Lib.hid (fun u hu=>Nat.le_trans hB hu.size)
 conv=>arg 2;arg 1;whnf
 go_loopw [5,8] (fun a b wr=>∃ (k:Nat) (A:Option Addr) (c:Nat) (v:Value) (ns:List Il.Rw) (V:List V3),a=.slice A (X.length-k) c∧b=v∧Hid (FS B m0 w0 X k A c v ns V wr)∧Hid (after LF ch i F Fs (X.drop k,stk ns)=fin)∧(ns).length+k=1+C∧Hid (∀ x∈X.take k,x.2.1≤i)∧Il.ij ns+2*(X.length-k)≤M∧B≤wr.heap.size) (fun a _ _=>Ey a)
 case atStart=>exact ⟨k,A,c,v,ns,V,rfl,rfl,h0,h1,h2,h3,h4,hB⟩
 case round =>
  clear h0 h1 h2 h3 h4 hB hBw;obtain ⟨k,A,c,v,ns,V,rfl,rfl,h0,h1,h2,h3,h4,hB⟩:=hrel;have hkl:=h0.out.kl
  by_cases hlt:k<X.length
  ·have Xt:=h0.out.pr
   obtain ⟨b,o,rfl,GG,hcell⟩:=Xt.2 (by omega);have Iy:X.drop k=X[k]::X.drop (k+1):=List.drop_eq_getElem_cons hlt;have hat:∀ j,j<3→(iE (X.drop k))[j]? = (xh X[k])[j]? := fun j hj=>by
    rw [Iy];show (xh X[k]++iE (X.drop (k+1)))[j]? = _;rw [List.getElem?_append_left (by simpa [xh] using hj)]
   have hgk:=hg.out _ (List.getElem_mem hlt);have hcm:=fun e=>Js hlt (fun x hx=>(hg.out x hx).1) h3.out e;have htk:X.take (k+1)=X.take k++[X[k]]:=List.take_succ_eq_append_getElem hlt;generalize X[k]=x at hat hgk Iy hcm htk;obtain ⟨pa,pb,ps⟩:=x;have x1:=hcell _ _ (hat 1 (by omega));have x2:=hcell _ _ (hat 2 (by omega));simp only at hgk hcm;have hbr:b<wr.heap.size:=GG.2.1;have hn0:0<X.length-k:=by omega
   obtain ⟨n,hn⟩:∃ n,n=X.length-k:=⟨_,rfl⟩
   rw [← hn] at hn0 ⊢;have hcap:n≤c:=by rw [hn];exact h0.out.cap
   by_cases vh:pb=i
   ·have t1:((pb:Int)==(i:Int))=true:=by simp [vh]
    have hcm2:=hcm vh;rw [← hC.out] at hcm2;obtain ⟨N,R,K,hns⟩:=Ql (l:=ns) (by omega);subst hns;have hwN:Il.ij (N++[R]++[K])=Il.ij N+R.wt+K.wt:=by
     rw [Il.eS,Il.eS,Il.gS,Il.gS];have:Il.ij []=0:=rfl;omega
    have hNl:N.length+2+k=1+C:=by simpa using h2
    have hCX:C≤X.length:=by rw [hC.out];exact List.countP_le_length
    have SD:=Lib.hid (OO (m:=Ds) ⟨by decide,by decide,by decide⟩ N R K h0.out.rs hB (Il.kd ps) (by omega) (by omega) (by omega));have hst:=Lib.hid (fun w=>EL ps (by omega) w);have hcut:=fun w=>On (some ⟨b,o,none⟩) n c (by omega) w;have ad1:=Lib.hid (RQ Xt (c:=c) (lo:=1) (by omega) h0.out.cap);have hok:=Lib.hid h0.out.ok;have DQ:Il.kd ps≠0:=by unfold Il.kd;split<;>omega
    have hwp:=R.Kc (.mk (Il.kd ps) [] [] K.full);have yB:Hid (after LF ch i F Fs (X.drop (k+1),stk (N++[R.put (.mk (Il.kd ps) [] [] K.full)]))=fin):=Lib.hid (by
     rw [← h1.out,Iy,EZ vh,Vq,sI,Il.Rw.xN R DQ];rfl)
    have hle:Hid (∀ x∈X.take (k+1),x.2.1≤i):=Lib.hid (fun x hx=>by
     rw [htk] at hx;rcases List.mem_append.1 hx with h | h
     ·exact h3.out x h
     ·obtain rfl:=List.mem_singleton.1 h;simp only;omega)
    have hwt:Il.ij (N++[R.put (.mk (Il.kd ps) [] [] K.full)])+2*(X.length-(k+1))≤M:=by
     rw [Il.eS,Il.gS];have e1:Il.ij []=0:=rfl;have e2:Il.fK (.mk (Il.kd ps) [] [] K.full)=0:=rfl;omega
    replace vh:=Lib.hid vh;replace Iy:=Lib.hid Iy;replace htk:=Lib.hid htk;replace hn:=Lib.hid hn;replace DQ:=Lib.hid DQ;replace hwN:=Lib.hid hwN;replace hNl:=Lib.hid hNl;replace hwp:=Lib.hid hwp;replace hC:=Lib.hid hC.out;obtain ⟨kk,hkk⟩:∃ kk,kk=Il.kd ps:=⟨_,rfl⟩
    rw [← hkk] at SD yB hwt hst DQ;replace hkk:=Lib.hid hkk;clear hcell hat Xt GG dV;go_wp2_with fail;refine (hst.out _).mono ?_;rintro e wz ⟨rfl,rfl⟩;go_wp2_with fail;refine SD.out.mono ?_;rintro e w3 ⟨v3,rfl,V3,pZ,ia⟩;have Ox:=ia.gY ad1.out;have uR:n-1=X.length-(k+1):=by rw [hn.out];omega
    have h03:Hid (FS B m0 w0 X (k+1) (wv 3 (some ⟨b,o,none⟩) c 1) (c-1) v3 (N++[R.put (.mk kk [] [] K.full)]) V3 w3):=Lib.hid
     ⟨pZ,by rw [Nat.one_mul,FO,Nat.sub_sub] at Ox;exact Ox,by omega,by omega,fun Z hZ=>by
      rcases List.mem_append.1 hZ with h | h
      ·exact hok.out Z (by simp [h])
      ·obtain rfl:=List.mem_singleton.1 h
       exact Il.Rw.Iq (hok.out R (by simp)) DQ.out _ _ _,h0.out.tu.trans ia⟩
    have jy:B≤w3.heap.size:=Nat.le_trans hB ia.bel.size;have R9:(N++[R.put (.mk kk [] [] K.full)]).length+(k+1)=1+C:=by
     have:=hNl.out;simp;omega
    replace R9:=Lib.hid R9;clear pZ ia Ox h0 SD;go_wp2_with fail
    go_roundw
    case rel=>exact ⟨k+1,_,c-1,v3,_,V3,by first | rfl | rw [uR],rfl,h03,yB,R9.out,hle,hwt,jy⟩
    case measure=>simp [Ey];omega
   ·have t1:((pb:Int)==(i:Int))=false:=by simp;omega
    have hstop:Hid (Il.closeAll i (X.drop k) (stk ns)=(X.drop k,stk ns)):=Lib.hid (by rw [Iy];exact AB vh);replace vh:=Lib.hid vh;replace Iy:=Lib.hid Iy;replace htk:=Lib.hid htk;replace hn:=Lib.hid hn;clear hcell hat Xt GG hcm;go_wp2_with fail;rw [hn.out];exact dV.out k _ c u8 ns V _ _ _ _ _ _ _ _ _ _ _ _ _ _ _ _ _ _ _ _  wr ⟨h0,h1,h2,h3,h4⟩ hstop.out
  ·have hkX:X.length-k=0:=by omega
   have hstop:Hid (Il.closeAll i (X.drop k) (stk ns)=(X.drop k,stk ns)):=Lib.hid (by rw [List.drop_eq_nil_of_le (by omega)];rfl);obtain ⟨n,hn⟩:∃ n,n=X.length-k:=⟨_,rfl⟩
   rw [← hn];have hn0:¬ 0<n:=by omega
   replace hn:=Lib.hid hn;replace hkX:=Lib.hid hkX;go_wp2_with fail;rw [hn.out];exact dV.out k A c u8 ns V _ _ _ _ _ _ _ _ _ _ _ _ _ _ _ _ _ _ _ _  wr ⟨h0,h1,h2,h3,h4⟩ hstop.out
end Go.Proofs.YtddkjkockbcamaaGreatDoor
namespace Go.Proofs.YtddkjkockbcamaaGreatDoor
open Go.RowKit
attribute [local go_sem] aD av aq
theorem lz {α:Type}{ns:List α}(h:ns≠[]):∃ R,ns[ns.length-1]? = some R∧∀ f:α→α,Il.bg f ns=ns.set (ns.length-1) (f R):=by
 have hp:0<ns.length:=List.length_pos_iff.2 h;refine ⟨ns[ns.length-1]'(by omega),List.getElem?_eq_getElem (by omega),fun f=>Il.MK f (by omega) (by omega)⟩
theorem Ll {b:UInt8}(h:b.toNat<128):Lib.encodeRune ((b.toNat:Nat):Int)=[b]:=by
 unfold Lib.encodeRune;rw [Lib.encodeRuneZ_one (by omega) (by omega)];simp
theorem FS.say {B:Nat}{m0:Ky→Option Pa}{w0:World}{X:List (Nat×Nat×Nat)}{k:Nat}{A:Option Addr}{c:Nat}{v:Value}{ns:List Il.Rw}{V:List V3}{w w':World}(h:FS B m0 w0 X k A c v ns V w) {f:Il.Rw→Il.Rw}(hf:∀ R,R.ok→(f R).ok) {V':List V3}(hR:RS w' B Ds 6 7 8 v (Il.bg f ns) V') (t:b7 B (aA Ds 6 7 8 v ns V) w (aA Ds 6 7 8 v (Il.bg f ns) V') w'):FS B m0 w0 X k A c v (Il.bg f ns) V' w' :=
 ⟨hR,t.gY h.pr,h.cap,h.kl,Il.p9 h.ok hf,h.tu.trans t⟩
theorem Qf (B:Nat) (m0:Ky→Option Pa) (w0:World) (X:List (Nat×Nat×Nat)) (L bx:Nat) (b:UInt8) (rn:Int) (ro rc:Bool) (hb:b.toNat<128) (hL:L≤1000000000) (k:Nat) (A:Option Addr) (c:Nat) (v:Value) (ns:List Il.Rw) (V:List V3) (w:World) (h0:FS B m0 w0 X k A c v ns V w) (hne:ns≠[]) (hnl:ns.length≤1000000000) (hw:Il.ij ns≤1000000000) (hB:B≤w.heap.size)
  (tv:Fr w B (aA Ds 6 7 8 v ns V) bx) (hbc:w.heap[bx]? = some (.cells #[.int .u8 (b.toNat:Int),.int .i64 rn,.bool ro,.bool rc] 240))
  (s0 s1 s2 s3 s4 s5 s6 s7 s9 s11 s12 s13 s14 s15 s16 s17 s18 s19 s20 s21 s22 s23 s24 s25 s26 s27 s28 s29 s30 s31 s32 s33 s34 s35 s36 s37 s38 s39 s40 s41 s42 s43 s44 s45 s46 s47 s48 s49 s50 s51 s52 s53 s54 s55 s56 s57 s58 s61 s62 s63 s64 s65 s66 s67 s68 s69 s70 s71 s72 s73 s74 s75 s76 s77 s78 s79 s80 s81 s82 s83 s84 s85 s86:Value) (Q0:Exit→Act→World→Prop) (bO:∀ c a d v w,Q0 (.panic c) (Act.put a d v) w→Q0 (.panic c) a w)
  (dV:∀ (V':List V3) (u60 u61 u62 u63 u64 u65 u66 u67 u68:Value) (wq:World),FS B m0 w0 X k A c v (Il.bg (fun R=>R.say (List.replicate L b)) ns) V' wq→B≤wq.heap.size→Q0 (.exit 4) ⟨(s0::s1::s2::s3::s4::s5::s6::s7::v::s9 :: .pointer (some ⟨bx,0,none⟩)::s11::s12::s13::s14::s15::s16::s17::s18::s19::s20::s21::s22::s23::s24::s25::s26::s27::s28::s29::s30::s31::s32::s33::s34::s35::s36::s37::s38::s39::s40::s41::s42::s43::s44::s45::s46::s47::s48::s49::s50::s51::s52::s53::s54::s55::s56::s57::s58 :: .int .i64 (L:Int)::u60::u61::u62::u63::u64::u65::u66::u67::u68::s69::s70::s71::s72::s73::s74::s75::s76::s77::s78::s79::s80::s81::s82::s83::s84::s85::s86::[]).toArray,[]⟩ wq) :
  Code.wp Tryz.prog (Code.loop (r6 Tryz.f174 2)) Q0 ⟨(s0::s1::s2::s3::s4::s5::s6::s7::v::s9 :: .pointer (some ⟨bx,0,none⟩)::s11::s12::s13::s14::s15::s16::s17::s18::s19::s20::s21::s22::s23::s24::s25::s26::s27::s28::s29::s30::s31::s32::s33::s34::s35::s36::s37::s38::s39::s40::s41::s42::s43::s44::s45::s46::s47::s48::s49::s50::s51::s52::s53::s54::s55::s56::s57::s58 :: .int .i64 (L:Int) :: .int .i64 0::s61::s62::s63::s64::s65::s66::s67::s68::s69::s70::s71::s72::s73::s74::s75::s76::s77::s78::s79::s80::s81::s82::s83::s84::s85::s86::[]).toArray,[]⟩ w:=by
 obtain ⟨g,cp,hv,_,_,_⟩:=h0.rs.slice (List.length_pos_iff.2 hne);have hwr:IntKind.i32.wrap (b.toNat:Int)=(b.toNat:Int):=by unfold IntKind.wrap;simp [IntKind.bits,IntKind.signed];omega
 have hn0:0<ns.length:=List.length_pos_iff.2 hne;have abX:Il.bg (fun R=>R.say (List.replicate 0 b)) ns=ns:=by
  obtain ⟨R,h1,h2⟩:=lz hne;rw [h2];have e:R.say (List.replicate 0 b)=R:=by unfold Il.Rw.say;simp
  rw [e];obtain ⟨h3,h4⟩:=List.getElem?_eq_some_iff.1 h1
  conv=>rhs;rw [← List.set_getElem_self h3,h4]
 have hstart:=Lib.hid (show FS B m0 w0 X k A c v (Il.bg (fun R=>R.say (List.replicate 0 b)) ns) V w∧Fr w B (aA Ds 6 7 8 v (Il.bg (fun R=>R.say (List.replicate 0 b)) ns) V) bx from by rw [abX];exact ⟨h0,tv⟩);obtain ⟨nl,U8⟩:∃ nl,nl=ns.length:=⟨_,rfl⟩
 rw [← U8] at hv hnl hn0;have cz:=fun w=>iz g nl cp hn0 (by omega) w;replace dV:=Lib.hid dV;replace bO:=Lib.hid bO;replace hbc:=Lib.hid hbc;replace hne:=Lib.hid hne;replace U8:=Lib.hid U8;have hwj:=Lib.hid (fun j (_:j≤L)=>(show Il.ij (Il.bg (fun R=>R.say (List.replicate j b)) ns)≤2000000000 from by
  have:=Il.jG (f:=fun R=>R.say (List.replicate j b)) (k:=j) (fun R=>by rw [Il.Rw.uu,List.length_replicate];exact Nat.le_refl _) ns;omega))
 replace hv:=Lib.hid hv;clear h0 tv abX
 conv=>arg 2;arg 1;whnf
 rw [hv.out]
 go_loopw [60] (fun a wr=>∃ (j:Nat) (V':List V3),a=.int .i64 (j:Int)∧j≤L∧Hid (FS B m0 w0 X k A c v (Il.bg (fun R=>R.say (List.replicate j b)) ns) V' wr)∧Hid (Fr wr B (aA Ds 6 7 8 v (Il.bg (fun R=>R.say (List.replicate j b)) ns) V') bx)∧Hid (wr.heap[bx]? = some (.cells #[.int .u8 (b.toNat:Int),.int .i64 rn,.bool ro,.bool rc] 240))∧B≤wr.heap.size) (fun a _=>L-(intOf a).toNat)
 case atStart=>exact ⟨0,V,rfl,by omega,Lib.hid hstart.out.1,Lib.hid hstart.out.2,hbc,hB⟩
 case round =>
  clear hstart hbc;obtain ⟨j,V',rfl,hj,hF,hfb,kr,wF⟩:=hrel
  by_cases hlt:j<L
  ·have hjn:Il.bg (fun R=>R.say (List.replicate j b)) ns≠[]:=Il.Fg hne.out
   obtain ⟨R,hR1,hR2⟩:=lz hjn;have hjl:(Il.bg (fun R=>R.say (List.replicate j b)) ns).length=nl:=by rw [Il.mg,U8.out]
   have hnext:Il.bg (fun R=>R.say [b]) (Il.bg (fun R=>R.say (List.replicate j b)) ns)=Il.bg (fun R=>R.say (List.replicate (j+1) b)) ns:=by
    rw [Il.vI];congr 1
    funext R
    unfold Il.Rw.say;simp [List.replicate_succ']
   have Ii:=Il.mC (List.mem_of_getElem? hR1);have agk:=hwj.out j hj;rw [hjl] at hR1 hR2;obtain ⟨x1,y1,z1,e1,q1,i1⟩:=hF.out.rs.look ⟨by decide,by decide,by decide⟩ hR1;have hc1:=hF.out.rs.cn (i:=nl-1) (g:=g) (cp:=cp) (by rw [hjl];exact hv.out) (by rw [hjl];omega);have hRp:R.p.length≤2000000000:=by unfold Il.Rw.wt at Ii;omega
   have aH:=Lib.hid (jv (fh ⟨by decide,by decide,by decide⟩ (nl-1)) hc1 q1 wF b.toNat (by unfold Ru.vr;omega) (by omega));rw [Ll hb] at aH;have hturn:=Lib.hid (fun (w':World) (vp':Value) t=>hF.out.rs.turned (w':=w') (R':=R.say [b]) (x:=x1) (y:=vp') (z:=z1) ⟨by decide,by decide,by decide⟩ hR1 e1 t (t.kids i1));have hS:(fun u:World=>u.heap[bx]? = some (.cells #[.int .u8 (b.toNat:Int),.int .i64 rn,.bool ro,.bool rc] 240)) wr.drew:=kr.out;have oh:Hid (Calls Tryz.prog 205 #[.pointer (some ⟨g,(nl-1)*2,none⟩),.int .i32 (b.toNat:Int)] wr.drew fun e w'=>e=.returned (.tuple #[])∧∃ V2,FS B m0 w0 X k A c v (Il.bg (fun R=>R.say (List.replicate (j+1) b)) ns) V2 w'∧Fr w' B (aA Ds 6 7 8 v (Il.bg (fun R=>R.say (List.replicate (j+1) b)) ns) V2) bx∧w'.heap[bx]? = some (.cells #[.int .u8 (b.toNat:Int),.int .i64 rn,.bool ro,.bool rc] 240)∧B≤w'.heap.size):=Lib.hid (by
    have hq:Hq wr.drew B (aR (aA Ds 6 7 8 v (Il.bg (fun R=>R.say (List.replicate j b)) ns) V') (n8 6 7 8 (nl-1)) (D6 v (Il.bg (fun R=>R.say (List.replicate j b)) ns).length V' (nl-1)) R x1 y1 z1):=q1.oD.hp;have:=jv (fh ⟨by decide,by decide,by decide⟩ (nl-1)) hc1 hq wF b.toNat (by unfold Ru.vr;omega) (by omega);rw [Ll hb] at this;refine this.mono ?_;rintro e w3 ⟨rfl,vp',t⟩;obtain ⟨pZ,ia⟩:=hturn.out w3 vp' (q1.oD.trans t);rw [← hR2 (fun R=>R.say [b]),hnext] at pZ ia;obtain ⟨f1,f2⟩:=ia.fre _ hfb.out;have hF2:FS B m0 w0 X k A c v (Il.bg (fun R=>R.say (List.replicate (j+1) b)) ns) (V'.set (nl-1) (x1,vp',z1)) w3 :=
     ⟨pZ,ia.gY hF.out.pr,hF.out.cap,hF.out.kl,by
      rw [← hnext];exact Il.p9 hF.out.ok fun R hR=>Il.Rw.Cw hR (Il.QD hb 1),hF.out.tu.trans ia⟩
    exact ⟨rfl,_,hF2,f2,f1.trans kr.out,Nat.le_trans wF ia.bel.size⟩)
   clear hturn aH q1 i1 hc1 Ii hR1 hF hfb e1;replace hnext:=Lib.hid hnext;replace hjl:=Lib.hid hjl;replace hR2:=Lib.hid hR2;replace kr:=Lib.hid kr.out;clear dV;obtain ⟨nm,hnm⟩:∃ nm,nm=(nl-1)*2:=⟨_,rfl⟩
   rw [← hnm] at cz oh;clear hnm;go_upto_region 14 with fail
   refine aF (.rd 0 (.rd 2 (.rd 3 (.rd 4 (.mk 1 (.mk 5 .fin)))))) (fun u:World=>u.heap[bx]? = some (.cells #[.int .u8 (b.toNat:Int),.int .i64 rn,.bool ro,.bool rc] 240)) hS (by kernel_rfl) (by kernel_rfl) (by kernel_rfl) (fun _ _ d _ _ h=>by cases d<;>exact bO.out _ _ _ _ _ h) ?_
   iterate 2 (first | refine an rfl ?_ | (refine az rfl ?_;intro K hK;go_simp;refine hK _ _ _ ?_;clear hK K))
   refine aJ (.int .u8 (b.toNat:Int)) rfl rfl hS (fun u hu=>by
    have h1:=ah (j:=0) hu;go_simp) ?_
   (first | refine an rfl ?_ | (refine az rfl ?_;intro K hK;go_simp;refine hK _ _ _ ?_;clear hK K))
   refine aE rfl ?_;intro K hK;go_simp;refine (cz _).mono ?_;rintro e w2 ⟨rfl,rfl⟩;refine ⟨_,hS,fun _ h=>h,hK _ _ _ ?_⟩;clear hK K;refine aE rfl ?_;intro K hK;go_simp;refine oh.out.mono ?_;rintro e w3 ⟨rfl,V2,hF2,hf2,hb2,hB2⟩;have fG:(fun u:World=>u.heap[bx]? = some (.cells #[.int .u8 (b.toNat:Int),.int .i64 rn,.bool ro,.bool rc] 240)) w3:=hb2;refine ⟨_,fG,fun _ h=>h,hK _ _ _ ?_⟩;clear hK K fG hS oh cz;replace hF2:=Lib.hid hF2;replace hf2:=Lib.hid hf2;replace hb2:=Lib.hid hb2;refine aQ ?_;go_wp2_with fail
   go_roundw
   case rel=>exact ⟨j+1,V2,by go_num,by omega,hF2,hf2,hb2,hB2⟩
   case measure=>simp [intOf];omega
  ·have hjL:j=L:=by omega
   subst hjL;have hx:=Lib.hid (fun u60 u61 u62 u63 u64 u65 u66 u67 u68=>dV.out V' u60 u61 u62 u63 u64 u65 u66 u67 u68 wr hF.out wF);rw [hv.out] at hx;clear dV;go_wp2_with fail;exact hx.out _ _ _ _ _ _ _ _ _
theorem IX:EI Tryz.prog 218 216 2 48:=EI.mk' (z:=.agg #[.slice none 0 0,.slice none 0 0]) (by kernel_rfl) (by kernel_rfl) rfl (by omega)
theorem OR (j:Nat):(Builtin.zeroCells (Value.agg #[.slice none 0 0,.slice none 0 0]).cells j).toList=aV (List.replicate j (.slice none 0 0,.slice none 0 0,[])):=by
 apply List.ext_getElem?;intro i;have hl:(aV (List.replicate j ((.slice none 0 0,.slice none 0 0,[]):V3))).length=j*2:=by rw [kE,List.length_replicate]
 have hz:(Builtin.zeroCells (Value.agg #[.slice none 0 0,.slice none 0 0]).cells j).toList.length=j*2:=by rw [Array.length_toList,size_zeroCells];rfl
 rcases Nat.lt_or_ge i (j*2) with h | h
 ·have e1:∀ u∈(Builtin.zeroCells (Value.agg #[.slice none 0 0,.slice none 0 0]).cells j).toList,u=Value.slice none 0 0:=by
   intro u hu;simp only [Builtin.zeroCells,Array.toList_map,List.mem_map] at hu;obtain ⟨q,_,rfl⟩:=hu;have hq:q%2=0∨q%2=1:=by omega
   show (#[Value.slice none 0 0,Value.slice none 0 0])[q%2]! = _;rcases hq with e | e<;>rw [e]<;>rfl
  have e2:∀ u∈aV (List.replicate j ((.slice none 0 0,.slice none 0 0,[]):V3)),u=Value.slice none 0 0:=by
   intro u hu;simp only [aV,List.mem_flatMap] at hu;obtain ⟨x,hx,hu⟩:=hu;obtain rfl:=(List.mem_replicate.1 hx).2;simpa using hu
  rw [List.getElem?_eq_getElem (by omega),List.getElem?_eq_getElem (by omega),e1 _ (List.getElem_mem _),e2 _ (List.getElem_mem _)]
 ·rw [List.getElem?_eq_none (by omega),List.getElem?_eq_none (by omega)]
theorem Ut (ns:List Il.Rw):(stk ns).length=ns.length:=by simp [stk]
theorem Bn {ns:List Il.Rw}(h:ns≠[]):∃ N R,ns=N++[R]:=by
 rcases List.eq_nil_or_concat ns with e | ⟨o,y,e⟩
 ·exact absurd e h
 ·exact ⟨o,y,by rw [e,List.concat_eq_append]⟩
theorem Ur {ns:List Il.Rw}(h:ns≠[]) (hok:∀ R∈ns,R.ok) (s:List UInt8):stk (Il.bg (fun R=>R.say s) ns)=Il.dW (stk ns) (Il.word s):=by
 obtain ⟨N,R,rfl⟩:=Bn h;rw [Il.b8,sI,sI,Il.Rw.rO (hok R (by simp))];rfl
theorem TH (ns:List Il.Rw) (o:Nat):stk (ns++List.replicate o Il.Rw.nil)=List.replicate o []++stk ns:=by
 simp [stk,Il.Rw.S6]
theorem TB {ns:List Il.Rw}(h:ns≠[]) (hok:∀ R∈ns,R.ok) {v:Il.Rw}(hv:v.ok):stk (Il.bg (fun R=>R.join v) ns)=Il.iQ (stk ns) v.full:=by
 obtain ⟨N,R,rfl⟩:=Bn h;rw [Il.b8,sI,sI,(Il.Rw.EF (hok R (by simp)) hv).2];rfl
theorem Jt (X:List (Nat×Nat×Nat)) (i:Nat):(X.countP fun x=>decide (x.1<i+1))=(X.countP fun x=>decide (x.1<i))+Il.opn X i:=by
 induction X with
 | nil=>rfl
 | cons x X ih =>
  rw [List.countP_cons,List.countP_cons,Il.zy,ih]
  by_cases h1:x.1<i
  ·rw [if_pos (by simp;omega),if_pos (by simpa using h1),if_neg (by omega)];omega
  ·by_cases h2:x.1=i
   ·rw [if_pos (by simp;omega),if_neg (by simpa using h1),if_pos h2];omega
   ·rw [if_neg (by simp;omega),if_neg (by simpa using h1),if_neg h2];omega
theorem PU {X:List (Nat×Nat×Nat)}{k i:Nat}(hg:∀ x∈X,x.1<x.2.1) (hle:∀ x∈X.take k,x.2.1≤i):Il.opn (X.drop k) i=Il.opn X i:=by
 have e:Il.opn X i=Il.opn (X.take k) i+Il.opn (X.drop k) i:=by
  unfold Il.opn;rw [← List.countP_append,List.take_append_drop]
 have z:Il.opn (X.take k) i=0:=by
  unfold Il.opn;rw [List.countP_eq_zero];intro x hx;have:=hle x hx;have:=hg x (List.mem_of_mem_take hx);simp;omega
 omega
theorem Hq.L5 {K K':Type}{w:World}{B:Nat}{m:K→Option Pa}{m2:K'→Option Pa}(h:Hq w B m) {k0:K}{e:TypeId}{s n c:Nat}{A:Option Addr}{xs:List Value}(h0:m k0=some (.row e s (.slice A n c) n xs)) (hs:∀ q x,m2 q=some x→∃ k,k≠k0∧m k=some x):e9 w (Fr w B m2) s A n xs:=by
 have ho:w.ownsRow B e s (.slice A n c) n xs:=h.holds _ _ h0;have hr:=j6 ho;refine ⟨hr.1,fun hp=>?_⟩;obtain ⟨b,o,h1,h2,h3⟩:=hr.2 hp;refine ⟨b,o,h1,⟨h2.1,h2.2,fun q x hx hb=>?_⟩,h3⟩;obtain ⟨k,hk,hk2⟩:=hs q x hx;exact hk (h.apart _ _ _ _ b hk2 h0 hb (by show (Value.slice A n c).ownBlock=some b;rw [h1];rfl))
theorem FS.ext {B:Nat}{m0:Ky→Option Pa}{w0:World}{X:List (Nat×Nat×Nat)}{k:Nat}{A:Option Addr}{c:Nat}{v:Value}{ns:List Il.Rw}{V:List V3}{w w':World}(h:FS B m0 w0 X k A c v ns V w) (hB:B≤w.heap.size) (hb:Below w.heap.size w w'):FS B m0 w0 X k A c v ns V w':=by
 have t:=h.rs.hp.call hB hb;exact ⟨h.rs.ext hB hb,t.gY h.pr,h.cap,h.kl,h.ok,h.tu.trans t⟩
def Mn (l:List Em.R):Nat:=(l.map fun r=>r.n.toNat).sum
end Go.Proofs.YtddkjkockbcamaaGreatDoor
namespace Go.Proofs.YtddkjkockbcamaaGreatDoor
open Go.RowKit
structure FR (w:World) (Q:Nat→Prop) (runs:List Em.R) (AR:Option Addr) (g1 g2:Nat) (O L:List Nat) (AF:Option Addr) (rs:List Il.Rw) (V:List V3):Prop where
 rn:e9 w Q 4 AR runs.length (aG runs)
 o:e9 w Q 1 (some ⟨g1,0,none⟩) runs.length (aC O)
 l:e9 w Q 1 (some ⟨g2,0,none⟩) runs.length (aC L)
 flat:e9 w Q 2 AF rs.length (aV V)
 rows:∀ i,1≤i→∀ (h:i<rs.length) (h':i<V.length),∃ A c Ap cp,V[i].1=.slice A rs[i].l.length c∧V[i].2.1=.slice Ap rs[i].p.length cp∧e9 w Q 4 A rs[i].l.length V[i].2.2.flatten∧iq w Q rs[i].l V[i].2.2∧e9 w Q 1 Ap rs[i].p.length (ai rs[i].p)
theorem FR.turn {K K':Type}{B:Nat}{m:K→Option Pa}{m':K'→Option Pa}{w w':World}{runs:List Em.R}{AR:Option Addr}{g1 g2:Nat}{O L:List Nat}{AF:Option Addr}{rs:List Il.Rw}{V:List V3}(t:b7 B m w m' w') (h:FR w (Fr w B m) runs AR g1 g2 O L AF rs V):FR w' (Fr w' B m') runs AR g1 g2 O L AF rs V :=
 ⟨t.gY h.rn,t.gY h.o,t.gY h.l,t.gY h.flat,fun i h1 h2 h3=>by
  obtain ⟨A,c,Ap,cp,e1,e2,e3,e4,e5⟩:=h.rows i h1 h2 h3;exact ⟨A,c,Ap,cp,e1,e2,t.gY e3,t.kids e4,t.gY e5⟩⟩
theorem TD {V:List V3}{i:Nat}(h:i<V.length):(aV V)[i*2]? = some V[i].1∧(aV V)[i*2+1]? = some V[i].2.1:=by
 have:=fun j (hj:j<2)=>iM (f:=fun x:V3=>[x.1,x.2.1]) (m:=2) (fun _=>rfl) V i j h hj;exact ⟨this 0 (by omega),this 1 (by omega)⟩
theorem JC {m:Ky→Option Pa}{vF:Value}{rs:List Il.Rw}{V:List V3}{w:World}{B:Nat}(h:RS w B m 3 4 5 vF rs V) (h1:0<rs.length) {AR:Option Addr}{cR:Nat}{runs:List Em.R}(vq:m (1,0)=some (.row 240 4 (.slice AR runs.length cR) runs.length (aG runs))) :
  ∃ (m2:Ky→Option Pa) (R0:Il.Rw) (x0:V3),rs[0]? = some R0∧V[0]? = some x0∧b7 B (aA m 3 4 5 vF rs V) w m2 w∧m2 (6,0)=none∧m2 (7,0)=some (mu R0 x0.1 x0.2.2)∧m2 (8,0)=some (n9 R0 x0.2.1)∧(∀ q,q≠(7,0)→q≠(8,0)→m2 q=none)∧iq w (Fr w B m2) R0.l x0.2.2 ∧
   e9 w (Fr w B m2) 4 AR runs.length (aG runs)∧∃ AF cF,vF=.slice AF rs.length cF∧e9 w (Fr w B m2) 2 AF rs.length (aV V)∧∀ i,1≤i→∀ (h:i<rs.length) (h':i<V.length),∃ A c Ap cp,V[i].1=.slice A rs[i].l.length c∧V[i].2.1=.slice Ap rs[i].p.length cp∧e9 w (Fr w B m2) 4 A rs[i].l.length V[i].2.2.flatten∧iq w (Fr w B m2) rs[i].l V[i].2.2∧e9 w (Fr w B m2) 1 Ap rs[i].p.length (ai rs[i].p):=by
 have hV:0<V.length:=by rw [h.len];exact h1
 obtain ⟨g,cF,UT,_,_,_⟩:=h.slice h1;have k4:∀ i (hi:i<rs.length) (hi':i<V.length),aA m 3 4 5 vF rs V (4,i)=some (mu rs[i] V[i].1 V[i].2.2):=fun i hi hi'=>by
  unfold aA atR;rw [if_neg (by simp),if_pos rfl,List.getElem?_eq_getElem hi,List.getElem?_eq_getElem hi']
 have k5:∀ i (hi:i<rs.length) (hi':i<V.length),aA m 3 4 5 vF rs V (5,i)=some (n9 rs[i] V[i].2.1):=fun i hi hi'=>by
  unfold aA atR;rw [if_neg (by simp),if_neg (by simp),if_pos rfl,List.getElem?_eq_getElem hi,List.getElem?_eq_getElem hi']
 have k1:aA m 3 4 5 vF rs V (1,0)=some (.row 240 4 (.slice AR runs.length cR) runs.length (aG runs)):=by
  unfold aA;rw [if_neg (by simp),if_neg (by simp),if_neg (by simp)];exact vq
 obtain ⟨m2,hm2⟩:∃ m2:Ky→Option Pa,m2=fun q=>if q=(7,0) then some (mu rs[0] V[0].1 V[0].2.2) else if q=(8,0) then some (n9 rs[0] V[0].2.1) else none:=⟨_,rfl⟩
 have hsub:∀ q x,m2 q=some x→(q=(7,0)∧aA m 3 4 5 vF rs V (4,0)=some x)∨(q=(8,0)∧aA m 3 4 5 vF rs V (5,0)=some x):=fun q x hx=>by
  rw [hm2] at hx;simp only at hx
  by_cases h7:q=(7,0)
  ·rw [if_pos h7] at hx;exact .inl ⟨h7,by rw [k4 0 h1 hV];exact hx⟩
  ·rw [if_neg h7] at hx
   by_cases h8:q=(8,0)
   ·rw [if_pos h8] at hx;exact .inr ⟨h8,by rw [k5 0 h1 hV];exact hx⟩
   ·rw [if_neg h8] at hx;cases hx
 have t:b7 B (aA m 3 4 5 vF rs V) w m2 w:=h.hp.Py (fun q=>if q=(7,0) then (4,0) else (5,0)) (fun q x hx=>.inl (by
   rcases hsub q x hx with ⟨rfl,h2⟩ | ⟨rfl,h2⟩
   ·simpa using h2
   ·simpa using h2)) (fun q q' x x' hx hx' _ e=>by
   rcases hsub q x hx with ⟨rfl,_⟩ | ⟨rfl,_⟩<;>rcases hsub q' x' hx' with ⟨rfl,_⟩ | ⟨rfl,_⟩<;>simp at e ⊢)
 have free:∀ k0,k0≠(4,0)→k0≠(5,0)→∀ q x,m2 q=some x→∃ k,k≠k0∧aA m 3 4 5 vF rs V k=some x:=fun k0 n1 n2 q x hx=>by
  rcases hsub q x hx with ⟨_,h2⟩ | ⟨_,h2⟩
  ·exact ⟨_,Ne.symm n1,h2⟩
  ·exact ⟨_,Ne.symm n2,h2⟩
 refine ⟨m2,rs[0],V[0],List.getElem?_eq_getElem h1,List.getElem?_eq_getElem hV,t,by rw [hm2];rfl,by rw [hm2];rfl,by rw [hm2];rfl,fun q n1 n2=>by rw [hm2];simp only;rw [if_neg n1,if_neg n2],t.kids (h.kids 0 h1 hV),h.hp.L5 k1 (free _ (by simp) (by simp)),some ⟨g,0,none⟩,cF,UT,?_,fun i hi1 hi hi'=>?_⟩
 ·have ka:=pL m 3 4 5 vF rs V
  rw [UT] at ka;rw [UT] at h free;exact h.hp.L5 ka (free _ (by simp) (by simp))
 ·have o4:w.ownsRow B 35 4 V[i].1 rs[i].l.length V[i].2.2.flatten:=h.hp.holds _ _ (k4 i hi hi')
  have o5:w.ownsRow B 5 1 V[i].2.1 rs[i].p.length (ai rs[i].p):=h.hp.holds _ _ (k5 i hi hi');obtain ⟨A,c,e1,_⟩:=ak o4;obtain ⟨Ap,cp,e2,_⟩:=ak o5;have k4':=k4 i hi hi';have k5':=k5 i hi hi';unfold mu at k4';unfold n9 at k5';rw [e1] at k4';rw [e2] at k5';exact ⟨A,c,Ap,cp,e1,e2,h.hp.L5 k4' (free _ (by simp;omega) (by simp)),t.kids (h.kids i hi hi'),h.hp.L5 k5' (free _ (by simp) (by simp;omega))⟩
theorem JH {m2:Ky→Option Pa}{R0:Il.Rw}{x0:V3}{w:World}{B:Nat}(hp:Hq w B m2) (hB:B≤w.heap.size) (h6:m2 (6,0)=none) (h7:m2 (7,0)=some (mu R0 x0.1 x0.2.2)) (h8:m2 (8,0)=some (n9 R0 x0.2.1)) (hno:∀ q,q≠(7,0)→q≠(8,0)→m2 q=none) (hI:iq w (Fr w B m2) R0.l x0.2.2) :
  b7 B m2 w (aA Ds 6 7 8 (.slice (some ⟨w.heap.size,0,none⟩) 1 1) [R0] [x0]) (w.alloc (.cells #[x0.1,x0.2.1] 216))∧RS (w.alloc (.cells #[x0.1,x0.2.1] 216)) B Ds 6 7 8 (.slice (some ⟨w.heap.size,0,none⟩) 1 1) [R0] [x0]:=by
 have t:=hp.Ev (k:=(6,0)) (w':=w.alloc (.cells #[x0.1,x0.2.1] 216)) (.row 216 2 (.slice (some ⟨w.heap.size,0,none⟩) 1 1) 1 [x0.1,x0.2.1]) h6 (aa w _)
  (World.ownsRow_lit w #[x0.1,x0.2.1] 1 hB (by unfold maxLen;omega) rfl) (fun g hg=>by
   have e:some w.heap.size=some g:=hg;injection e with e;omega) hB
 have e:uq m2 (6,0) (.row 216 2 (.slice (some ⟨w.heap.size,0,none⟩) 1 1) 1 [x0.1,x0.2.1])=aA Ds 6 7 8 (.slice (some ⟨w.heap.size,0,none⟩) 1 1) [R0] [x0]:=by
  funext q
  obtain ⟨q1,q2⟩:=q;unfold uq aA
  by_cases h:(q1,q2)=(6,0)
  ·rw [if_pos h,if_pos h];rfl
  ·rw [if_neg h,if_neg h]
   simp only
   by_cases h1:q1=7
   ·subst h1
    rw [if_pos rfl];rcases q2 with _ | q2
    ·rw [h7];rfl
    ·rw [hno _ (by simp) (by simp)];rfl
   ·rw [if_neg h1]
    by_cases h2:q1=8
    ·subst h2
     rw [if_pos rfl];rcases q2 with _ | q2
     ·rw [h8];rfl
     ·rw [hno _ (by simp) (by simp)];rfl
    ·rw [if_neg h2,hno _ (by simp [h1]) (by simp [h2])]
 rw [e] at t;refine ⟨t,t.hp,rfl,fun i hi hi'=>?_⟩;obtain rfl:i=0:=by simpa using hi
 exact t.kids hI
end Go.Proofs.YtddkjkockbcamaaGreatDoor
namespace Go.Proofs.YtddkjkockbcamaaGreatDoor
open Go.RowKit
attribute [local go_sem] aD av aq
theorem Rv:∀ u∈(Value.agg #[.slice none 0 0,.slice none 0 0]).cells.toList,u.oneCell'=true:=by
 intro u hu;have:u=.slice none 0 0∨u=.slice none 0 0:=by simpa [Value.cells] using hu
 rcases this with rfl | rfl<;>rfl
theorem Kv {m:Ky→Option Pa}{vF:Value}{rs:List Il.Rw}{V:List V3}{w:World}{B:Nat}{AR:Option Addr}{cR:Nat}(runs:List Em.R) (T:List Il.In) (h:RS w B m 3 4 5 vF rs V) (hB:B≤w.heap.size) (vq:m (1,0)=some (.row 240 4 (.slice AR runs.length cR) runs.length (aG runs)))
  (hlr:rs.length=runs.length+1) (hn:runs.length≤4000000) (uR:1≤runs.length) (hok:∀ R∈rs,R.ok) (hch:∀ r∈runs,r.ch.toNat<128∧0≤r.n∧r.n≤1000000000) (hwt:Il.ij rs≤64000000) (hct:Mn runs≤4000000)
  (hT:∃ R Rs,rs=R::Rs∧Il.oI (Il.qI runs) (fun r=>(Em.get runs r).ch) 0 (Rs.map Il.Rw.full) (Em.pairs runs,[R.full])=([],[T])) :
  Calls Tryz.prog 174 #[vF,.slice AR runs.length cR] w fun e w'=>∃ v,e=.returned v∧∃ css,w'.ownsRow B 35 4 v T.length css.flatten∧iq w' (fun b=>B≤b∧b<w'.heap.size) T css∧Below B w w':=by
 obtain ⟨m2,R0,x0,YY,hx0,t2,h6,h7,h8,hno,TY,Lr,AF,cF,rfl,Db,Kj⟩:=JC h (by omega) vq;have hX:=Em.xI runs;have hinv:=Em.pW runs;obtain ⟨X,XO⟩:∃ X,X=Em.pairs runs:=⟨_,rfl⟩
 have Fl:∀ x∈X,x.1<x.2.1∧x.2.1≤4000000∧x.2.2≤2:=fun x hx=>by
  have:=hinv.good x (by rw [XO] at hx;exact hx);exact ⟨this.1,by omega,this.2.2.2.2.1⟩
 have Jj:∀ x∈X,x.1<runs.length∧x.2.1<runs.length∧x.1≠x.2.1∧x.2.2≤2:=fun x hx=>by
  have:=hinv.good x (by rw [XO] at hx;exact hx);exact ⟨by omega,this.2.2.1,by omega,this.2.2.2.2.1⟩
 have nL:∀ i,i<runs.length→Em.used X i≤Il.cnt runs i:=fun i hi=>by
  have h1:=hinv.sum i hi;have h2:=(Il.sw (fun r hr=>(hch r hr).2) hi).1;rw [XO];unfold Em.pairs;omega
 have CH:=fun w hw=>JK runs AR cR w hw hn;rw [← XO] at hX hT CH;have Ly:Row w w.heap.size 4 AR runs.length (aG runs):=FL Lr (fun b hb=>hb.2.1);have QU:∀ i,Il.cnt runs i-Em.used X i=Il.qI runs i:=fun i=>by rw [XO];rfl
 have hpos:∀ r∈runs,0≤r.n∧r.n≤1000000000:=fun r hr=>(hch r hr).2;have hVl:=h.len;obtain ⟨gF,cF',UT,_,_,hgF⟩:=h.slice (by omega);injection UT with hAF _ _;subst hAF;have c00:=(Db.2 (by omega))
 obtain ⟨bF,oF,VF,_,hcF⟩:=c00;injection VF with VF;injection VF with e1 e2;subst e1 e2;have y0:w.cell? ⟨gF,0,none⟩=some x0.1:=by
  obtain ⟨hv1,hv2⟩:=List.getElem?_eq_some_iff.1 hx0;have:=hcF 0 x0.1 (by rw [← hv2];exact (TD hv1).1);simpa using this
 have y1:w.cell? ⟨gF,1,none⟩=some x0.2.1:=by
  obtain ⟨hv1,hv2⟩:=List.getElem?_eq_some_iff.1 hx0;have:=hcF 1 x0.2.1 (by rw [← hv2];exact (TD hv1).2);simpa using this
 replace hcF:=Lib.hid hcF;replace t2:=Lib.hid t2;replace TY:=Lib.hid TY;replace Lr:=Lib.hid Lr;replace Db:=Lib.hid Db;replace Kj:=Lib.hid Kj;replace hno:=Lib.hid hno;replace h6:=Lib.hid h6;replace h7:=Lib.hid h7;replace h8:=Lib.hid h8;replace hT:=Lib.hid hT;replace CH:=Lib.hid CH;replace Fl:=Lib.hid Fl;replace Jj:=Lib.hid Jj;replace nL:=Lib.hid nL;replace Ly:=Lib.hid Ly;replace QU:=Lib.hid QU;replace hpos:=Lib.hid hpos;replace hch:=Lib.hid hch;replace hok:=Lib.hid hok;replace YY:=Lib.hid YY;replace hx0:=Lib.hid hx0;replace hVl:=Lib.hid hVl;replace XO:=Lib.hid XO;replace hinv:=Lib.hid hinv;replace hlr:=Lib.hid hlr;clear h vq;obtain ⟨n,hnn⟩:∃ n,n=runs.length:=⟨_,rfl⟩
 rw [← hnn] at hn uR ⊢;have adz:rs.length=n+1:=by rw [hlr.out,hnn]
 obtain ⟨nf,hnf⟩:∃ nf,nf=rs.length:=⟨_,rfl⟩
 rw [← hnf] at adz ⊢;replace hnn:=Lib.hid hnn;replace hnf:=Lib.hid hnf;have hn0:((n:Int)==0)=false:=by simp;omega
 have hi0:(0:Int)<(nf:Int):=by omega
 go_enter Tryz.func174,Tryz.ntmps174;go_upto_region 3 with fail
 go_wp2_with fail;rw [hnn.out];refine (CH.out _ Ly.out).mono ?_;rintro e w1 ⟨⟨vp,rfl,hop⟩,hb1⟩;obtain ⟨A5,c5,rfl,hc5⟩:=ak hop;have hz1:=hb1.size;have abQ:=Lib.hid (Ly.out.ext hb1);have Vd:=j6 hop;have Qp:=Lib.hid (Row.own hop);have hsh:=Lib.hid (G4 runs X AR cR A5 c5 w1 abQ.out Qp.out (by have:=hnn.out;omega) (by have:=hnn.out;omega) Jj.out hpos.out nL.out);rw [← hnn.out] at hsh;rw [← hnn.out];have y0':=(hb1.cell (p:=⟨gF,0,none⟩) hgF).trans y0;have y1':=(hb1.cell (p:=⟨gF,1,none⟩) hgF).trans y1;replace Vd:=Lib.hid Vd;replace hb1:=Lib.hid hb1;clear hop y0 y1;go_wp2_with fail;refine hsh.out.mono ?_;rintro e w3 ⟨g1,g2,O,L,rfl,EG,hO,hL,hb3⟩;have Pz:=ag hb1.out hb3;have z0:=(hb3.cell (p:=⟨gF,0,none⟩) (Nat.lt_of_lt_of_le hgF hz1)).trans y0';have z1:=(hb3.cell (p:=⟨gF,1,none⟩) (Nat.lt_of_lt_of_le hgF hz1)).trans y1';have YO:=Pz.size;have t3:=t2.out.hp.call hB Pz;have jy:=Nat.le_trans hB YO;obtain ⟨t4,SP⟩:=JH t3.hp jy h6.out h7.out h8.out hno.out (t3.kids TY.out);have tot:=Lib.hid (t2.out.trans (t3.trans t4));have hnew:=fun b (h1:w.heap.size≤b) (h2:b<w3.heap.size)=>Hq.new (w':=w3) t2.out.hp hB h1 h2;have Ox:=t4.gY (Vd.out.frame (w':=w3) (Q':=Fr w3 B m2) (fun b hb=>hb3.block b hb.2) (fun b hb=>hnew b hb.1 (Nat.lt_of_lt_of_le hb.2 hb3.size)));have Pp:=t4.gY ((j6 EG.o).frame (w':=w3) (Q':=Fr w3 B m2) (fun _ _=>rfl) (fun b hb=>hnew b (by omega) hb.2));have hL3:=t4.gY ((j6 EG.l).frame (w':=w3) (Q':=Fr w3 B m2) (fun _ _=>rfl) (fun b hb=>hnew b (by omega) hb.2));have Nc:=Lib.hid (show FR _ _ runs AR g1 g2 O L (some ⟨gF,0,none⟩) rs V from ⟨t4.gY (t3.gY Lr.out),by rw [← hnn.out];exact Pp,by rw [← hnn.out];exact hL3,t4.gY (t3.gY Db.out),fun i a b c=>by
  obtain ⟨A,c',Ap,cp,e1,e2,e3,e4,e5⟩:=Kj.out i a b c;exact ⟨A,c',Ap,cp,e1,e2,t4.gY (t3.gY e3),t4.kids (t3.kids e4),t4.gY (t3.gY e5)⟩⟩)
 have XH:R0.ok:=hok.out R0 (List.mem_of_getElem? YY.out);have XT:=Lib.hid (show FS B (aA Ds 6 7 8 (.slice (some ⟨w3.heap.size,0,none⟩) 1 1) [R0] [x0]) (w3.alloc (.cells #[x0.1,x0.2.1] 216)) X 0 A5 c5 (.slice (some ⟨w3.heap.size,0,none⟩) 1 1) [R0] [x0] (w3.alloc (.cells #[x0.1,x0.2.1] 216)) from
  ⟨SP,by simpa using Ox,by simpa using hc5,Nat.zero_le _,fun R hR=>by obtain rfl:=List.mem_singleton.1 hR;exact XH,SP.hp.refl⟩)
 replace hO:=Lib.hid hO;replace hL:=Lib.hid hL;have VE:=Lib.hid EG.ol;have aaB:=Lib.hid EG.ll;replace EG:=Lib.hid EG;replace Pz:=Lib.hid Pz;replace hnew:=Lib.hid hnew;replace XH:=Lib.hid XH;replace SP:=Lib.hid SP;clear Ox Pp hL3 t3 t4 hb3 y0' y1' Vd hsh hb1;go_wp2_with fail;obtain ⟨w4,hw4⟩:∃ w4,w4=w3.alloc (.cells #[x0.1,x0.2.1] 216):=⟨_,rfl⟩
 obtain ⟨gN,hgN⟩:∃ g,g=w3.heap.size:=⟨_,rfl⟩
 rw [← hw4,← hgN] at tot Nc XT ⊢;have tB:B≤w4.heap.size:=by rw [hw4];simp;omega
 clear hw4 hgN SP z0 z1 hnew EG Pz;obtain ⟨m4,hm4⟩:∃ m4,m4=aA Ds 6 7 8 (.slice (some ⟨gN,0,none⟩) 1 1) [R0] [x0]:=⟨_,rfl⟩
 have ab8:Hid (FS B m4 w4 X 0 A5 c5 (.slice (some ⟨gN,0,none⟩) 1 1) [R0] [x0] w4):=by rw [hm4];exact XT
 rw [← hm4] at tot Nc;clear hm4 XT;obtain ⟨M,hM⟩:∃ M,M=1000000000:=⟨_,rfl⟩
 have ag4:M≤1000000000:=by omega
 have hX4:X.length≤400000000:=by have:=hnn.out;omega
 have hstart:Hid (Il.oI (Il.qI runs) (fun r=>(Em.get runs r).ch) 0 ((rs.drop 1).map Il.Rw.full) (X.drop 0,stk [R0])=([],[T]))∧Il.ij [R0]+2*(X.length-0)+2*Il.ij (rs.drop 1)+Mn (runs.drop 0)≤M:=by
  obtain ⟨R,Rs,e1,e2⟩:=hT.out;have e3:R=R0:=by have:=YY.out;rw [e1] at this;simpa using this
  subst e3;have e4:Il.ij rs=R.wt+Il.ij Rs:=by rw [e1,Il.gS]
  have e5:Il.ij [R]=R.wt:=by simp [Il.ij]
  refine ⟨Lib.hid (by rw [e1];exact e2),?_⟩;rw [e1,List.drop_one,List.tail_cons,List.drop_zero,e5];have:=hnn.out;omega
 obtain ⟨RM,W4⟩:=hstart;replace hM:=Lib.hid hM;replace hX:=Lib.hid hX;replace Qp:=Lib.hid Qp
 go_loopw [5,8,31] (fun a b u wr=>∃ (i k:Nat) (A:Option Addr) (c:Nat) (v:Value) (ns:List Il.Rw) (V':List V3),a=.slice A (X.length-k) c∧b=v∧u=.int .i64 (i:Int)∧i≤n∧Hid (FS B m4 w4 X k A c v ns V' wr)∧Hid (Il.oI (Il.qI runs) (fun r=>(Em.get runs r).ch) i ((rs.drop (i+1)).map Il.Rw.full) (X.drop k,stk ns)=([],[T]))∧Hid (ns.length+k=1+X.countP fun x=>decide (x.1<i))∧Hid (∀ x∈X.take k,x.2.1≤i)∧Il.ij ns+2*(X.length-k)+2*Il.ij (rs.drop (i+1))+Mn (runs.drop i)≤M∧B≤wr.heap.size) (fun _ _ u _=>n-(intOf u).toNat)
 case atStart=>exact ⟨0,0,A5,c5,.slice (some ⟨gN,0,none⟩) 1 1,[R0],[x0],rfl,rfl,rfl,by omega,ab8,RM,Lib.hid (by simp),Lib.hid (by simp),W4,tB⟩
 case round =>
  clear ab8 RM W4;obtain ⟨i,k,A,c,v,ns,V',rfl,rfl,rfl,hi,hF,yB,nX,hle,adE,wF⟩:=hrel
  by_cases hlt:i<n
  ·have Od:i<runs.length:=by rw [← hnn.out];exact hlt
   have ZQ:=Nc.out.turn hF.out.tu;obtain ⟨bR,oR,rfl,hqR,Za⟩:=ZQ.rn.2 (by omega);have hat:=fun j (hj:j<4)=>iM (f:=kK) (m:=4) (fun _=>rfl) runs i j Od hj;have hgi:Em.get runs i=runs[i]:=Em.get_at Od;have YU:=hch.out _ (List.getElem_mem Od);have hdr:runs.drop i=runs[i]::runs.drop (i+1):=List.drop_eq_getElem_cons Od;generalize runs[i]=r at hat hgi YU hdr;obtain ⟨ch,rn,ro,rc⟩:=r;simp only at YU;have x0c:=Za _ _ (hat 0 (by omega));have x1c:=Za _ _ (hat 1 (by omega));have x2c:=Za _ _ (hat 2 (by omega));have x3c:=Za _ _ (hat 3 (by omega));simp only [← Nat.add_assoc,Nat.add_zero] at x0c x1c x2c x3c;have hbr:bR<wr.heap.size:=hqR.2.1;have afO:Mn (runs.drop i)=rn.toNat+Mn (runs.drop (i+1)):=by rw [hdr];rfl
   have CG:=Lib.hid (hF.out.ext (w':=wr.alloc (.cells #[.int .u8 (ch.toNat:Int),.int .i64 rn,.bool ro,.bool rc] 240)) wF (aa wr _));have tv:=Lib.hid (Hq.new (w':=wr.alloc (.cells #[.int .u8 (ch.toNat:Int),.int .i64 rn,.bool ro,.bool rc] 240)) hF.out.rs.hp wF (b:=wr.heap.size) (Nat.le_refl _) (by simp));have hbc:Hid ((wr.alloc (.cells #[.int .u8 (ch.toNat:Int),.int .i64 rn,.bool ro,.bool rc] 240)).heap[wr.heap.size]? = some (.cells #[.int .u8 (ch.toNat:Int),.int .i64 rn,.bool ro,.bool rc] 240)):=Lib.hid (heap_alloc_new wr _);have hBx:B≤(wr.alloc (.cells #[.int .u8 (ch.toNat:Int),.int .i64 rn,.bool ro,.bool rc] 240)).heap.size:=by simp;omega
   have Uk:rs.length=runs.length+1:=hlr.out;have hi1:i+1<rs.length:=by omega
   have RV:rs.drop (i+1)=rs[i+1]::rs.drop (i+2):=List.drop_eq_getElem_cons hi1;obtain ⟨Rf,pU⟩:∃ Rf,Rf=rs[i+1]:=⟨_,rfl⟩
   rw [← pU] at RV;have hwd:Il.ij (rs.drop (i+1))=Rf.wt+Il.ij (rs.drop (i+2)):=by rw [RV,Il.gS]
   have Zj:Hid (after (Il.qI runs) (fun r=>(Em.get runs r).ch) i Rf.full ((rs.drop (i+2)).map Il.Rw.full) (X.drop k,stk ns)=([],[T])):=Lib.hid (by
    have:=yB.out;rw [RV,List.map_cons] at this;exact this)
   replace hdr:=Lib.hid hdr;replace hat:=Lib.hid hat;replace ZQ:=Lib.hid ZQ;replace hgi:=Lib.hid hgi;replace RV:=Lib.hid RV;replace pU:=Lib.hid pU;replace Uk:=Lib.hid Uk;clear yB Za hqR hF;go_wp2_with fail;obtain ⟨wa,zV⟩:∃ wa,wa=wr.alloc (.cells #[.int .u8 (ch.toNat:Int),.int .i64 rn,.bool ro,.bool rc] 240):=⟨_,rfl⟩
   obtain ⟨bx,aa2⟩:∃ bx,bx=wr.heap.size:=⟨_,rfl⟩
   rw [← zV] at CG tv hbc hBx ⊢;rw [← aa2] at tv hbc ⊢;clear zV aa2 x0c x1c x2c x3c;have hFt:=CG.out.tu;refine Kh B (aA Ds 6 7 8 u8 ns V') wa X i (X.countP fun x=>decide (x.1<i)) (M-(2*Il.ij (rs.drop (i+1))+Mn (runs.drop i))) (Il.qI runs) (fun r=>(Em.get runs r).ch) Rf.full ((rs.drop (i+2)).map Il.Rw.full) ([],[T]) Fl.out rfl (by omega) hX4 k A c u8 ns V' wa ⟨CG.out.rs,CG.out.pr,CG.out.cap,CG.out.kl,CG.out.ok,CG.out.rs.hp.refl⟩ Zj.out nX.out hle.out (by omega) hBx _ _ _ _ _ _ _ _ _ _ _ _ _ _ _ _ _ _ _ _ _ _ _ _ _ _ _ _ _ _ _ _ _ _ _ _ _ _ _ _ _ _ _ _ _ _ _ _ _ _ _ _ _ _ _ _ _ _ _ _ _ _ _ _ _ _ _ _ _ _ _ _ _ _ _ _ _ _ _ _ _ _ _ _ _ ?_;intro k2 A2 c2 v2 ns2 V2 u36 u37 u38 u39 u40 u41 u42 u43 u44 u45 u46 u47 u48 u49 u50 u51 u52 u53 u54 u55 w5 ⟨Xg,hm5,hc5,hl5,hp5⟩ hstop;have VM:=Xg.out.tu;have hF6:FS B m4 w4 X k2 A2 c2 v2 ns2 V2 w5:=⟨Xg.out.rs,Xg.out.pr,Xg.out.cap,Xg.out.kl,Xg.out.ok,hFt.trans VM⟩
   have YI:=VM.fre _ tv.out;have adS:=Lib.hid (YI.1.trans hbc.out);have adh:=Lib.hid YI.2;have D9:=Nat.le_trans hBx VM.bel.size;have Uj:=Nc.out.turn hF6.tu;obtain ⟨b2,o2,YK,RG,hc2⟩:=Uj.l.2 (by omega);injection YK with YK;injection YK with e1 e2;subst e1 e2;obtain ⟨b3,o3,Je,hq3,hc3⟩:=Uj.o.2 (by omega);injection Je with Je;injection Je with e1 e2;subst e1 e2;have hLi:=hL.out i (by have:=aaB.out;omega);have hOi:=hO.out i (by have:=VE.out;omega);rw [QU.out] at hLi;have xl:=hc2 i (.int .i64 ((Il.qI runs i:Nat):Int)) (by
    rw [aC,List.getElem?_map,List.getElem?_eq_getElem (by have:=aaB.out;omega),hLi];rfl)
   have xo:=hc3 i (.int .i64 ((Il.opn X i:Nat):Int)) (by
    rw [aC,List.getElem?_map,List.getElem?_eq_getElem (by have:=VE.out;omega),hOi];rfl)
   simp only [Nat.zero_add] at xl xo;have Sr:g1<w5.heap.size:=hq3.2.1;have aek:g2<w5.heap.size:=RG.2.1;have hlf:Il.qI runs i≤rn.toNat:=by
    unfold Il.qI Il.cnt;rw [hgi.out];simp only;omega
   obtain ⟨lf,Vw⟩:∃ lf,lf=Il.qI runs i:=⟨_,rfl⟩
   rw [← Vw] at xl hlf;obtain ⟨op,Jd⟩:∃ op,op=Il.opn X i:=⟨_,rfl⟩
   rw [← Jd] at xo;replace Vw:=Lib.hid Vw;replace Jd:=Lib.hid Jd;have Oy:ns2≠[]:=by
    intro e;have h1:=hm5.out;unfold after Il.qj at h1;rw [hstop,e] at h1;simp only [stk,List.map_nil,List.reverse_nil] at h1;have:=hc5;rw [e] at this;simp only [List.length_nil] at this;have hcl:X.countP (fun x=>decide (x.1<i))+1≤k2:=by omega
    have hkl:=Xg.out.kl;have hcc:(X.countP fun x=>decide (x.1<i))≥(X.take k2).countP (fun x=>decide (x.1<i)):=by
     conv=>lhs;rw [← List.take_append_drop k2 X,List.countP_append]
     omega
    have hall:(X.take k2).countP (fun x=>decide (x.1<i))=(X.take k2).length:=by
     rw [List.countP_eq_length];intro x hx;have h1:=hl5.out x hx;have h2:=(Fl.out x (List.mem_of_mem_take hx)).1;simp;omega
    rw [List.length_take] at hall;omega
   clear hc2 hc3 RG hq3 Xg CG tv hbc YI VM hFt hLi hOi;replace Uj:=Lib.hid Uj;replace hF6:=Lib.hid hF6;replace Oy:=Lib.hid Oy;replace hstop:=Lib.hid hstop;replace hc5:=Lib.hid hc5;obtain ⟨gN2,cN2,rfl,_,_,_⟩:=hF6.out.rs.slice (List.length_pos_iff.2 Oy.out);go_wp2_with fail;have hCX:(X.countP fun x=>decide (x.1<i))≤X.length:=List.countP_le_length;refine Qf B m4 w4 X lf bx ch rn ro rc YU.1 (by omega) k2 A2 c2 _ ns2 V2 w5 hF6.out Oy.out (by have:=hc5.out;omega) (by omega) D9 adh.out adS.out _ _ _ _ _ _ _ _ _ _ _ _ _ _ _ _ _ _ _ _ _ _ _ _ _ _ _ _ _ _ _ _ _ _ _ _ _ _ _ _ _ _ _ _ _ _ _ _ _ _ _ _ _ _ _ _ _ _ _ _ _ _ _ _ _ _ _ _ _ _ _ _ _ _ _ _ _ _ _ _ _ _ _ _ (fun _ _ d _ _ h=>by cases d<;>exact h) ?_;intro V3 q60 q61 q62 q63 q64 q65 q66 q67 q68 w6 PW Vb;have X4:=Nc.out.turn PW.tu;obtain ⟨b3,o3,Je,hq3,hc3⟩:=X4.o.2 (by omega);injection Je with Je;injection Je with e1 e2;subst e1 e2;have hOi:=hO.out i (by have:=VE.out;omega);have xo6:=hc3 i (.int .i64 ((op:Nat):Int)) (by
    rw [aC,List.getElem?_map,List.getElem?_eq_getElem (by have:=VE.out;omega),hOi,← Jd.out];rfl)
   simp only [Nat.zero_add] at xo6;have agj:g1<w6.heap.size:=hq3.2.1;have af5:op≤X.length:=by rw [Jd.out];unfold Il.opn;exact List.countP_le_length
   obtain ⟨ns3,HU⟩:∃ ns3,ns3=Il.bg (fun R=>R.say (List.replicate lf ch)) ns2:=⟨_,rfl⟩
   rw [← HU] at PW;have hl3:ns3.length=ns2.length:=by rw [HU,Il.mg]
   have X1:ns3≠[]:=by rw [HU];exact Il.Fg Oy.out
   have hw3:Il.ij ns3≤Il.ij ns2+lf:=by
    rw [HU];exact Il.jG (fun R=>by rw [Il.Rw.uu,List.length_replicate];exact Nat.le_refl _) ns2
   have SS:stk ns3=Il.dW (stk ns2) (Il.word (List.replicate lf ch)):=by rw [HU];exact Ur Oy.out hF6.out.ok _
   have harr:=PW.rs.arr;rw [hl3] at harr;have hlb:ns2.length≤1000000000:=by have:=hc5.out;omega
   have hgrow:=Lib.hid (fun (w':World) (v':Value) (hg:w6.grownBy w' (Value.slice (some ⟨gN2,0,none⟩) ns2.length cN2).ownBlock) (ho:w'.ownsRow B 216 2 v' (ns2.length+op) (aV V3++aV (List.replicate op (.slice none 0 0,.slice none 0 0,[])))) (hat:At w6.heap.size (.slice (some ⟨gN2,0,none⟩) ns2.length cN2) v')=>PW.rs.grow (w':=w') (v':=v') (j:=op) Vb hg (by rw [hl3];exact ho) hat);replace PW:=Lib.hid PW;replace SS:=Lib.hid SS;replace HU:=Lib.hid HU;replace hl3:=Lib.hid hl3;replace X1:=Lib.hid X1;replace X4:=Lib.hid X4;clear hc3 hq3 hOi xl xo Sr aek;go_upto_region 16 with fail
   go_upto_region 17 with (at_builtin;refine ua rfl (.tmp 69) (.tmp 73) rfl IX (kn:=.i64) Tryz.underlying3 (z:=.agg #[.slice none 0 0,.slice none 0 0]) (by kernel_rfl) Rv rfl harr rfl (by omega) (by omega) Vb ?_;intro v7 w7 LB sY nY)
   rw [OR] at LB;obtain ⟨Qv,t8⟩:=hgrow.out w7 v7 sY.out LB nY.out;obtain ⟨ns4,N6⟩:∃ ns4,ns4=ns3++List.replicate op Il.Rw.nil:=⟨_,rfl⟩
   rw [← N6] at Qv t8;have QV:ns4≠[]:=by rw [N6];simp [X1.out]
   have hl4:ns4.length=ns2.length+op:=by rw [N6,List.length_append,List.length_replicate,hl3.out]
   have Yw:∀ R∈ns4,R.ok:=fun R hR=>by
    rw [N6] at hR;rcases List.mem_append.1 hR with h | h
    ·exact PW.out.ok R h
    ·rw [(List.mem_replicate.1 h).2];exact Il.Rw.Kl
   have hw4:Il.ij ns4=Il.ij ns3:=by
    rw [N6,Il.eS];have:∀ j,Il.ij (List.replicate j Il.Rw.nil)=0:=fun j=>by
     induction j with
     | zero=>rfl
     | succ j ih=>rw [List.replicate_succ,Il.gS,ih];rfl
    rw [this];omega
   obtain ⟨V4,hV4⟩:∃ V4,V4=V3++List.replicate op (.slice none 0 0,.slice none 0 0,[]):=⟨_,rfl⟩
   rw [← hV4] at Qv t8;have hF8:FS B m4 w4 X k2 A2 c2 v7 ns4 V4 w7:=⟨Qv,t8.gY PW.out.pr,PW.out.cap,PW.out.kl,Yw,PW.out.tu.trans t8⟩
   have Xs:=Nat.le_trans Vb t8.bel.size;obtain ⟨gN7,cN7,rfl,_,_,_⟩:=Qv.slice (List.length_pos_iff.2 QV);obtain ⟨R,hR1,hR2⟩:=lz QV;have Ii:=Il.mC (List.mem_of_getElem? hR1);have ZP:=Nc.out.turn hF8.tu;have aa5:i+1<V.length:=by rw [hVl.out,Uk.out];omega
   have abm:i+1<rs.length:=by rw [Uk.out];omega
   obtain ⟨AJ,cJ,PJ,dJ,ej1,ej2,ej3,ej4,ej5⟩:=ZP.rows (i+1) (by omega) abm aa5;rw [← pU.out] at ej1 ej2 ej3 ej4 ej5;obtain ⟨bF,oF,hbF,hqF,Yo⟩:=ZP.flat.2 (by omega);injection hbF with hbF;injection hbF with e1 e2;subst e1 e2;have hv3:=TD aa5;rw [ej1,ej2] at hv3;have xf0:=Yo _ _ hv3.1;have xf1:=Yo _ _ hv3.2;simp only [Nat.zero_add] at xf0 xf1;obtain ⟨cssJ,abg⟩:∃ cs,cs=V[i+1].2.2:=⟨_,rfl⟩
   rw [← abg] at ej3 ej4;have XX:Rf.ok:=by rw [pU.out];exact hok.out _ (List.getElem_mem abm)
   have hwf:Rf.wt≤1000000000:=by omega
   have hwR:R.wt≤1000000000:=by omega
   obtain ⟨x1,y1,z1,e1,q1,i1⟩:=Qv.look ⟨by decide,by decide,by decide⟩ hR1;have hc1:=Qv.cn (i:=ns4.length-1) (g:=gN7) (cp:=cN7) rfl (by have:=List.length_pos_iff.2 QV;omega);have hS:(fun u:World=>u.cell? ⟨gF,(i+1)*2,none⟩=some (.slice AJ Rf.l.length cJ)∧u.cell? ⟨gF,(i+1)*2+1,none⟩=some (.slice PJ Rf.p.length dJ)) w7.drew:=⟨xf0,xf1⟩
   have oh:Hid (Calls Tryz.prog 206 #[.pointer (some ⟨gN7,(ns4.length-1)*2,none⟩),.agg #[.slice AJ Rf.l.length cJ,.slice PJ Rf.p.length dJ]] w7.drew fun e w'=>e=.returned (.tuple #[])∧∃ V9,FS B m4 w4 X k2 A2 c2 (.slice (some ⟨gN7,0,none⟩) ns4.length cN7) (Il.bg (fun R=>R.join Rf) ns4) V9 w'∧(fun u:World=>u.cell? ⟨gF,(i+1)*2,none⟩=some (.slice AJ Rf.l.length cJ)∧u.cell? ⟨gF,(i+1)*2+1,none⟩=some (.slice PJ Rf.p.length dJ)) w'∧B≤w'.heap.size):=Lib.hid (by
    have hq:Hq w7.drew B (aR (aA Ds 6 7 8 (.slice (some ⟨gN7,0,none⟩) ns4.length cN7) ns4 V4) (n8 6 7 8 (ns4.length-1)) (D6 (.slice (some ⟨gN7,0,none⟩) ns4.length cN7) ns4.length V4 (ns4.length-1)) R x1 y1 z1):=q1.oD.hp;refine (Mr (fh ⟨by decide,by decide,by decide⟩ (ns4.length-1)) hc1 hq (q1.oD.kids i1) Xs hwR Rf XX hwf AJ cJ cssJ PJ dJ (by rw [e1];exact Qv.hp.oD.gY ej3) (by rw [e1];exact Qv.hp.oD.kids ej4) (by rw [e1];exact Qv.hp.oD.gY ej5)).mono ?_;rintro e w' ⟨rfl,vi',vp',css',t,hI'⟩;obtain ⟨hR9,hT9⟩:=Qv.turned (w':=w') ⟨by decide,by decide,by decide⟩ hR1 e1 (q1.oD.trans t) hI';rw [← hR2 (fun R=>R.join Rf)] at hR9 hT9;have Po:=hT9.fre gF hqF;exact ⟨rfl,_,hF8.say (fun R hR=>(Il.Rw.EF hR XX).1) hR9 hT9,⟨gj Po.1 _ xf0,gj Po.1 _ xf1⟩,Nat.le_trans Xs hT9.bel.size⟩)
   have cz:=Lib.hid (fun w=>iz gN7 ns4.length cN7 (List.length_pos_iff.2 QV) (by have:=hc5.out;omega) w);have Yx:Hid (Il.oI (Il.qI runs) (fun r=>(Em.get runs r).ch) (i+1) ((rs.drop (i+1+1)).map Il.Rw.full) (X.drop k2,stk (Il.bg (fun R=>R.join Rf) ns4))=([],[T])):=Lib.hid (by
    rw [TB QV Yw XX,N6,TH,SS.out];have h1:=hm5.out;unfold after Il.qj at h1;simp only [hstop.out] at h1;rw [PU (fun x hx=>(Fl.out x hx).1) hl5.out,← Jd.out,← Vw.out,hgi.out] at h1;exact h1)
   have abD:Hid ((Il.bg (fun R=>R.join Rf) ns4).length+k2=1+X.countP fun x=>decide (x.1<i+1)):=Lib.hid (by
    rw [Il.mg,hl4,Jt,← Jd.out];have:=hc5.out;omega)
   have R3:Hid (∀ x∈X.take k2,x.2.1≤i+1):=Lib.hid (fun x hx=>Nat.le_succ_of_le (hl5.out x hx));have hwj:Il.ij (Il.bg (fun R=>R.join Rf) ns4)≤Il.ij ns4+2*Rf.wt:=Il.jG (fun R=>Il.Rw.Vu R Rf) ns4;have abI:Il.ij (Il.bg (fun R=>R.join Rf) ns4)+2*(X.length-k2)+2*Il.ij (rs.drop (i+1+1))+Mn (runs.drop (i+1))≤M:=by
    show _+_+2*Il.ij (rs.drop (i+2))+_≤M;omega
   have afV:gF<w7.heap.size:=hqF.2.1;obtain ⟨nm,hnm⟩:∃ nm,nm=(ns4.length-1)*2:=⟨_,rfl⟩
   rw [← hnm] at cz oh;obtain ⟨n4,hn4⟩:∃ n4,n4=ns4.length:=⟨_,rfl⟩
   rw [← hn4] at cz oh ⊢;have hif:((i:Int)+1)<(nf:Int):=by omega
   have agz:(0:Int)≤(i:Int)+1:=by omega
   have hwi:(((i:Int)+1).toNat)=i+1:=by omega
   have ahu:IntKind.i64.wrap ((i:Int)+1)=(i:Int)+1:=by rw [IntKind.wrap_i64];omega
   have ahC:(i:Int)+1<(n:Int)+1:=by omega
   clear hnm hn4 Qv t8 hF8 ZP ej1 ej2 ej3 ej4 ej5 Yo hv3 xf0 xf1 q1 i1 hc1 e1 hR1 hR2 Ii Yw hqF;go_upto_region 17 with fail
   refine aF (.rd 0 (.rd 2 (.rd 3 (.rd 4 (.rd 5 (.rd 6 (.mk 1 (.mk 7 .fin)))))))) (fun u:World=>u.cell? ⟨gF,(i+1)*2,none⟩=some (.slice AJ Rf.l.length cJ)∧u.cell? ⟨gF,(i+1)*2+1,none⟩=some (.slice PJ Rf.p.length dJ)) hS (by kernel_rfl) (by kernel_rfl) (by kernel_rfl) (fun _ _ d _ _ h=>by cases d<;>exact h) ?_
   iterate 5 (first | refine an rfl ?_ | (refine az rfl ?_;intro K hK;go_simp;refine hK _ _ _ ?_;clear hK K))
   refine aJ (.agg #[.slice AJ Rf.l.length cJ,.slice PJ Rf.p.length dJ]) rfl rfl hS (fun u hu=>by obtain ⟨h1,h2⟩:=hu;go_simp) ?_;refine aE rfl ?_;intro K hK;go_simp;refine (cz.out _).mono ?_;rintro e w8 ⟨rfl,rfl⟩;refine ⟨_,hS,fun _ h=>h,hK _ _ _ ?_⟩;clear hK K;refine aE rfl ?_;intro K hK;go_simp;refine oh.out.mono ?_;rintro e w9 ⟨rfl,V9,hF9,hS9,WV⟩;refine ⟨_,hS9,fun _ h=>h,hK _ _ _ ?_⟩;clear hK K hS hS9 oh cz;replace hF9:=Lib.hid hF9;refine aQ ?_;go_wp2_with fail
   go_roundw
   case rel=>exact ⟨i+1,k2,A2,c2,_,_,V9,rfl,rfl,by go_num,by omega,hF9,Yx,abD,R3,abI,WV⟩
   case measure=>simp [intOf];omega
  ·have hin:i=n:=by omega
   subst hin;have hend:=yB.out;rw [List.drop_eq_nil_of_le (by rw [hlr.out,← hnn.out];omega)] at hend;have hst:stk ns=[T]:=congrArg Prod.snd hend;have hl1:ns.length=1:=by rw [← Ut,hst];rfl
   obtain ⟨R,rfl⟩:∃ R,ns=[R]:=List.length_eq_one_iff.1 hl1;have hRT:R.full=T:=by simpa [stk] using hst
   obtain ⟨gN2,cN2,rfl,_,_,_⟩:=hF.out.rs.slice (by simp);obtain ⟨x1,y1,z1,e1,q1,i1⟩:=hF.out.rs.look (i:=0) (R:=R) ⟨by decide,by decide,by decide⟩ rfl;have hc1:=hF.out.rs.cn (i:=0) (g:=gN2) (cp:=cN2) rfl (by simp);have Ii:R.wt≤Il.ij [R]:=by simp [Il.ij]
   have hRb:R.p.length≤1000000000∧R.l.length≤1000000000:=by unfold Il.Rw.wt at Ii;omega
   have hall:=Lib.hid (lB (fh ⟨by decide,by decide,by decide⟩ 0) hc1 q1 i1 wF (by omega) (by omega));have cz:=fun w=>iz gN2 1 cN2 (by omega) (by omega) w;have htu:=Lib.hid hF.out.tu.bel;have hbt:=Lib.hid tot.out.bel;clear q1 i1 e1 hc1 hF yB hend hst Ii nX hle adE;replace hRT:=Lib.hid hRT;simp only [List.length_singleton] at *;go_wp2_with fail;refine (cz _).mono ?_;rintro e w8 ⟨rfl,rfl⟩;go_wp2_with fail;refine hall.out.mono ?_;rintro e w9 ⟨v9,rfl,vp9,css9,t9,hI9⟩;have hown:w9.ownsRow B 35 4 v9 R.full.length css9.flatten:=t9.hp.holds _ _ (iB (fh ⟨by decide,by decide,by decide⟩ 0));have cX:=iw (w':=w9) (Q':=fun b=>B≤b∧b<w9.heap.size) (fun _ _=>rfl) (fun b hb=>⟨hb.1,hb.2.1⟩) hI9;have hbel:=Lib.hid (hbt.out.trans (htu.out.trans t9.bel));replace hown:=Lib.hid hown;replace cX:=Lib.hid cX;rw [hRT.out] at hown cX;clear t9 hI9 hall;go_wp2_with fail;go_ret;exact ⟨_,rfl,css9,hown.out,cX.out,hbel.out⟩
end Go.Proofs.YtddkjkockbcamaaGreatDoor
namespace Go.Proofs.YtddkjkockbcamaaGreatDoor
open Go.RowKit
theorem JQ {m:Ky→Option Pa}{vF:Value}{R:Il.Rw}{V:List V3}{w:World}{B:Nat}{AR:Option Addr}{cR:Nat}(h:RS w B m 3 4 5 vF [R] V) (hB:B≤w.heap.size) (hw:R.wt≤1000000000) :
  Calls Tryz.prog 174 #[vF,.slice AR 0 cR] w fun e w'=>∃ v,e=.returned v∧∃ css,w'.ownsRow B 35 4 v R.full.length css.flatten∧iq w' (fun b=>B≤b∧b<w'.heap.size) R.full css∧Below B w w':=by
 obtain ⟨g,cp,rfl,_,_,_⟩:=h.slice (by simp);obtain ⟨x1,y1,z1,e1,q1,i1⟩:=h.look (i:=0) (R:=R) ⟨by decide,by decide,by decide⟩ rfl;have hc1:=h.cn (i:=0) (g:=g) (cp:=cp) rfl (by simp);have hRb:R.p.length≤1000000000∧R.l.length≤1000000000:=by unfold Il.Rw.wt at hw;omega
 have hall:=Lib.hid (lB (fh ⟨by decide,by decide,by decide⟩ 0) hc1 q1 i1 hB (by omega) (by omega));clear h e1 q1 i1 hc1 hRb;simp only [List.length_singleton];go_enter Tryz.func174,Tryz.ntmps174;go_wp2_with fail;refine hall.out.mono ?_;rintro e w9 ⟨v9,rfl,vp9,css9,t9,hI9⟩;have hown:w9.ownsRow B 35 4 v9 R.full.length css9.flatten:=t9.hp.holds _ _ (iB (fh ⟨by decide,by decide,by decide⟩ 0));have cX:=iw (w':=w9) (Q':=fun b=>B≤b∧b<w9.heap.size) (fun _ _=>rfl) (fun b hb=>⟨hb.1,hb.2.1⟩) hI9;have hbel:=Lib.hid t9.bel;replace hown:=Lib.hid hown;replace cX:=Lib.hid cX;clear t9 hI9 hall;go_wp2_with fail;go_ret;exact ⟨_,rfl,css9,hown.out,cX.out,hbel.out⟩
theorem NZ {m:Ky→Option Pa}{vF:Value}{rs:List Il.Rw}{V:List V3}{w:World}{B:Nat}{AR:Option Addr}{cR i:Nat}(st:Il.Sc) (h:RS w B m 3 4 5 vF rs V) (hB:B≤w.heap.size) (vq:m (1,0)=some (.row 240 4 (.slice AR st.runs.length cR) st.runs.length (aG st.runs)))
  (hrel:Il.Rel rs st) (hsc:Il.fF st i) (hi:i≤4000000) (hch:∀ r∈st.runs,r.ch.toNat<128) (hwt:Il.ij rs≤64000000) (hct:Mn st.runs≤4000000) :
  Calls Tryz.prog 174 #[vF,.slice AR st.runs.length cR] w fun e w'=>∃ v,e=.returned v∧∃ css,w'.ownsRow B 35 4 v (Il.cY st.l st.runs).length css.flatten∧iq w' (fun b=>B≤b∧b<w'.heap.size) (Il.cY st.l st.runs) css∧Below B w w':=by
 have hfr:=Il.Mx hrel hsc
 by_cases h0:st.runs=[]
 ·obtain ⟨R,Rs,rfl,e2⟩:=hfr
  have hl:=hrel.len;rw [h0] at hl e2;have hRs:Rs=[]:=by
   cases Rs with
   | nil=>rfl
   | cons a b=>simp at hl
  subst hRs;have e3:R.full=Il.cY st.l st.runs:=by
   have h2:=congrArg Prod.snd e2;rw [h0];have e4:[R.full]=[Il.cY st.l []]:=h2;injection e4
  rw [← e3,h0];exact JQ h hB (Nat.le_trans (Il.mC (List.mem_singleton.2 rfl)) (by omega))
 ·have hp:1≤st.runs.length:=List.length_pos_iff.2 h0
  exact Kv st.runs _ h hB vq hrel.len (Nat.le_trans hsc.rlen hi) hp hrel.ok (fun r hr=>⟨hch r hr,hsc.pos r hr⟩) hwt hct hfr
end Go.Proofs.YtddkjkockbcamaaGreatDoor
namespace Go.Proofs.YtddkjkockbcamaaGreatDoor
open Go.RowKit Go.Maps
def D3 (s:List UInt8) (link:Bool) (gm:Nat) (vr vF:Value):Array Value:=#[.string (bs s),.bool link,.string (bs s),.map (some gm),vr,vF]
def rR (bR gm nm:Nat) (s:List UInt8) (link:Bool) (D:DataW Unit) (vr vF:Value) (runs:List Em.R):Ky→Option Pa:=fun q =>
 if q=(0,0) then some (.blk bR (D3 s link gm vr vF) 221)
 else if q=(1,0) then some (.row 240 4 vr runs.length (aG runs))
 else if q=(2,0) then some (.map gm nm D) else none
def closing (s:List UInt8) (i:Nat):Nat:=(Lk.close s (i:Int)).getD s.length
def j3 (s:List UInt8) (D:DataW Unit):Prop:=∀ i:Nat,Maps.has D (.int .i64 (i:Int))=true→(i<s.length∧s.getD i 0=91)∧D.atKey (.int .i64 (i:Int)) (.lit (.int .i64 0))=.lit (.int .i64 (closing s i:Int))
structure RD (w:World) (B bR:Nat) (s:List UInt8) (link:Bool) (st:Il.Sc) (gm nm:Nat) (D:DataW Unit) (vr vF:Value) (rs:List Il.Rw) (V:List V3):Prop where
 rw:RS w B (rR bR gm nm s link D vr vF st.runs) 3 4 5 vF rs V
 rel:Il.Rel rs st
 ends:j3 s D
def bP (w:World) (B bR:Nat) (s:List UInt8) (link:Bool) (st:Il.Sc) (i mk:Nat):Prop :=
 B≤w.heap.size∧∃ gm nm D vr vF rs V,RD w B bR s link st gm nm D vr vF rs V∧Il.ij rs≤16*i∧nm≤mk
section
variable {w w':World}{B bR:Nat}{s:List UInt8}{link:Bool}{st:Il.Sc}{gm nm:Nat}{D:DataW Unit}{vr vF:Value}{rs:List Il.Rw}{V:List V3}
theorem RD.blk (h:RD w B bR s link st gm nm D vr vF rs V):w.heap[bR]? = some (.cells (D3 s link gm vr vF) 221 (0,0))∧B≤bR∧bR<w.heap.size:=by
 have hk:aA (rR bR gm nm s link D vr vF st.runs) 3 4 5 vF rs V (0,0)=some (.blk bR (D3 s link gm vr vF) 221):=by
  unfold aA rR;rw [if_neg (by simp),if_neg (by simp),if_neg (by simp),if_pos rfl]
 have h1:=h.rw.hp.holds _ _ hk;exact ⟨h1.2,h1.1,(Array.getElem?_eq_some_iff.1 h1.2).1⟩
theorem RD.cells (h:RD w B bR s link st gm nm D vr vF rs V):w.cell? ⟨bR,0,none⟩=some (.string (bs s))∧w.cell? ⟨bR,1,none⟩=some (.bool link)∧w.cell? ⟨bR,2,none⟩=some (.string (bs s))∧w.cell? ⟨bR,3,none⟩=some (.map (some gm))∧w.cell? ⟨bR,4,none⟩=some vr∧w.cell? ⟨bR,5,none⟩=some vF∧(∀ j,w.frozen? ⟨bR,j,none⟩=false):=by
 have hb:=h.blk.1;exact ⟨ah hb 0,ah hb 1,ah hb 2,ah hb 3,ah hb 4,ah hb 5,bf hb⟩
theorem RD.ext (h:RD w B bR s link st gm nm D vr vF rs V) (hB:B≤w.heap.size) (hb:Below w.heap.size w w'):RD w' B bR s link st gm nm D vr vF rs V:=⟨h.rw.ext hB hb,h.rel,h.ends⟩
theorem RD.ne (h:RD w B bR s link st gm nm D vr vF rs V):rs≠[]:=by
 have:=h.rel.len;intro e;rw [e] at this;simp at this
theorem RD.last (h:RD w B bR s link st gm nm D vr vF rs V) {R:Il.Rw}(hR:rs[rs.length-1]? = some R) (f:Il.Rw→Il.Rw) {st':Il.Sc}(hrel:Il.Rel (Il.bg f rs) st') (vq:st'.runs=st.runs) (hf:Il.bg f rs=rs.set (rs.length-1) (f R))
  {x0 y0 x y:Value}{z0 z:List (List Value)}(he:aR (aA (rR bR gm nm s link D vr vF st.runs) 3 4 5 vF rs V) (n8 3 4 5 (rs.length-1)) (D6 vF rs.length V (rs.length-1)) R x0 y0 z0=aA (rR bR gm nm s link D vr vF st.runs) 3 4 5 vF rs V)
  (t:b7 B (aR (aA (rR bR gm nm s link D vr vF st.runs) 3 4 5 vF rs V) (n8 3 4 5 (rs.length-1)) (D6 vF rs.length V (rs.length-1)) R x0 y0 z0) w (aR (aA (rR bR gm nm s link D vr vF st.runs) 3 4 5 vF rs V) (n8 3 4 5 (rs.length-1)) (D6 vF rs.length V (rs.length-1)) (f R) x y z) w')
  (hI:iq w' (Fr w' B (aR (aA (rR bR gm nm s link D vr vF st.runs) 3 4 5 vF rs V) (n8 3 4 5 (rs.length-1)) (D6 vF rs.length V (rs.length-1)) (f R) x y z)) (f R).l z):RD w' B bR s link st' gm nm D vr vF (Il.bg f rs) (V.set (rs.length-1) (x,y,z))∧Below B w w':=by
 obtain ⟨h1,h2⟩:=h.rw.turned ⟨by decide,by decide,by decide⟩ hR he t hI;rw [← hf] at h1;refine ⟨⟨?_,hrel,h.ends⟩,t.bel⟩;rw [vq];exact h1
theorem IA (h:RD w B bR s link st gm nm D vr vF rs V) (hB:B≤w.heap.size) (r:Nat) (hr:Ru.vr r) (hw:Il.ij rs≤64000000) (hbig:rs.length≤1000000000):∃ g c,vF=.slice (some ⟨g,0,none⟩) rs.length c∧0<rs.length ∧
  Calls Tryz.prog 205 #[.pointer (some ⟨g,(rs.length-1)*2,none⟩),.int .i32 (r:Int)] w fun e w'=>e=.returned (.tuple #[])∧∃ V',RD w' B bR s link ⟨Il.fL st.l (Lib.encodeRune (r:Int)),st.runs⟩ gm nm D vr vF (Il.bg (fun R=>R.say (Lib.encodeRune (r:Int))) rs) V'∧Below B w w':=by
 have hp:=List.length_pos_iff.2 h.ne;obtain ⟨g,c,hv,hc,_,_⟩:=h.rw.slice hp;obtain ⟨R,hR1,hR2⟩:=lz h.ne;have Ii:=Il.mC (List.mem_of_getElem? hR1);obtain ⟨x1,y1,z1,e1,q1,i1⟩:=h.rw.look ⟨by decide,by decide,by decide⟩ hR1;have hc1:=h.rw.cn (i:=rs.length-1) hv (by omega);refine ⟨g,c,hv,hp,(jv (fh ⟨by decide,by decide,by decide⟩ (rs.length-1)) hc1 q1 hB r hr (by unfold Il.Rw.wt at Ii;omega)).mono ?_⟩;rintro e w' ⟨rfl,vp',t⟩;exact ⟨rfl,_,(h.last hR1 (fun R=>R.say (Lib.encodeRune (r:Int))) (Il.KK h.rel (Il.S0 hr)) rfl (hR2 _) e1 t (t.kids i1))⟩
end
end Go.Proofs.YtddkjkockbcamaaGreatDoor
namespace Go.Proofs.YtddkjkockbcamaaGreatDoor
open Go.RowKit Go.Maps
attribute [local go_sem] aD av aq
section
variable {w:World}{B bR:Nat}{s:List UInt8}{link:Bool}{st:Il.Sc}{i mk:Nat}
theorem bP.mw {w:World}(ok:Il.fF st i) (hi:i≤s.length) (hs:s.length≤4000000) {gm nm:Nat}{D:DataW Unit}{vr vF:Value}{rs:List Il.Rw}{V:List V3}(h:RD w B bR s link st gm nm D vr vF rs V):rs.length≤4000001:=by
 have h1:=h.rel.len;have h2:=ok.rlen;omega
theorem ld (h:bP w B bR s link st i mk) (ok:Il.fF st i) (hi:i<s.length) (hs:s.length≤4000000) :
  Calls Tryz.prog 199 #[.pointer (some ⟨bR,0,none⟩),.int .i64 (i:Int)] w fun e w'=>e=.returned (.int .i64 ((Es.next s i).2.1:Int)) ∧
   bP w' B bR s link ⟨Il.fL st.l (Lib.encodeRune ((Es.next s i).1:Int)),st.runs⟩ (Es.next s i).2.1 mk∧Below B w w':=by
 obtain ⟨hB,gm,nm,D,vr,vF,rs,V,hR,hw,hnm⟩:=h;obtain ⟨hm1,hm2⟩:=Es.fj hi;have hl1:=bP.mw ok (by omega) hs hR;have hV:nN s i=.tuple #[.int .i32 ((Es.next s i).1:Int),.int .i64 ((Es.next s i).2.1:Int),.bool (Es.next s i).2.2]:=rfl;have FY:=Es.KQ s i;have hnext:=Lib.hid (pM s (i:Int) (by omega) w trivial);rw [show ((i:Int)).toNat=i from by omega,hV] at hnext;clear hV;obtain ⟨x,hx⟩:∃ x,x=(Es.next s i).1:=⟨_,rfl⟩
 obtain ⟨n,hn⟩:∃ n,n=(Es.next s i).2.1:=⟨_,rfl⟩
 obtain ⟨o,ho⟩:∃ o,o=(Es.next s i).2.2:=⟨_,rfl⟩
 rw [← hx,← hn,← ho] at hnext;rw [← hn] at hm1 hm2;rw [← hx] at FY;rw [← hx,← hn];clear hx hn ho;obtain ⟨f0,f1,f2,f3,f4,f5,f6⟩:=hR.cells;have hp:=List.length_pos_iff.2 hR.ne;obtain ⟨g,c,rfl,_,_,_⟩:=hR.rw.slice hp;have Eh:=Lib.hid (fun (w1:World) (hb:Below w.heap.size w w1)=>IA (hR.ext hB hb) (Nat.le_trans hB hb.size) x FY (by omega) (by omega));have hcl:=Lib.hid (fun (w1:World) (hb:Below w.heap.size w w1)=>(hR.ext hB hb).cells);have cz:=Lib.hid (fun w=>iz g rs.length c hp (by omega) w);have hwl:=Il.jG (f:=fun R=>R.say (Lib.encodeRune (x:Int))) (k:=4) (fun R=>by
  rw [Il.Rw.uu];have:=(Ru.gJ [x]).2;simp [Ru.enc] at this;omega) rs
 replace hwl:=Lib.hid hwl;clear hR;go_enter Tryz.func199,Tryz.ntmps199;go_wp2_with fail;refine hnext.out.mono ?_;rintro e w1 ⟨rfl,hb1⟩;have FD:=Lib.hid hb1;obtain ⟨c0,c1,c2,c3,c4,c5,c6⟩:=hcl.out w1 hb1;obtain ⟨g',c',hv',_,GJ⟩:=Eh.out w1 hb1;obtain ⟨rfl,rfl⟩:g=g'∧c=c':=by injection hv' with h1 h2 h3;injection h1 with h1;injection h1 with h1;exact ⟨h1,h3⟩
 replace GJ:=Lib.hid GJ;clear f0 f1 f2 f3 f4 f5 f6 Eh hcl hnext hb1 hv';go_wp2_with fail;refine (cz.out _).mono ?_;rintro e w2 ⟨rfl,rfl⟩;go_wp2_with fail;refine GJ.out.mono ?_;rintro e w3 ⟨rfl,V',pZ,hb3⟩;have hb:=(FD.out.mono hB).trans hb3;replace pZ:=Lib.hid pZ;replace hb:=Lib.hid hb;clear c0 c1 c2 c3 c4 c5 c6 hb3;go_wp2;go_ret;exact ⟨rfl,⟨Nat.le_trans hB hb.out.size,gm,nm,D,vr,_,_,V',pZ.out,by have:=hwl.out;omega,by omega⟩,hb.out⟩
end
end Go.Proofs.YtddkjkockbcamaaGreatDoor
