/- IlPClose IlPFsay IlPFoldM IlPFoldS IlPFold IlPFoldN IlPRd IlPRd2 -/
import Derived.Test.YtddkjkockbcamaaGreatDoorHe21
import Derived.Test.YtddkjkockbcamaaGreatDoorHe09
import Derived.Test.YtddkjkockbcamaaGreatDoorHe02
import Derived.Test.YtddkjkockbcamaaGreatDoorHe31
import Derived.Test.YtddkjkockbcamaaGreatDoorHe28
set_option maxHeartbeats 16000000
set_option maxRecDepth 100000
namespace Go.Proofs.YtddkjkockbcamaaGreatDoor
open Go.RowKit
abbrev Ae:Ky→Option Pa:=fun _=>none
structure FS (B:Nat) (m0:Ky→Option Pa) (w0:World) (X:List (Nat×Nat×Nat)) (k:Nat) (A:Option Addr) (c:Nat) (v:Value) (ns:List Il.Rw) (V:List V3) (w:World):Prop where
 rs:RS w B Ae 6 7 8 v ns V
 pr:eu w (Fr w B (az Ae 6 7 8 v ns V)) 3 A (X.length-k) (gI (X.drop k))
 cap:X.length-k≤c
 kl:k≤X.length
 ok:∀ R∈ns,R.ok
 tu:bV B m0 w0 (az Ae 6 7 8 v ns V) w
def stk (ns:List Il.Rw):List (List Il.In):=(ns.map Il.Rw.full).reverse
theorem RT (N:List Il.Rw) (R K:Il.Rw):stk (N++[R]++[K])=K.full::R.full::stk N:=by simp [stk]
theorem p5 (N:List Il.Rw) (R:Il.Rw):stk (N++[R])=R.full::stk N:=by simp [stk]
def after (LF:Nat→Nat) (ch:Nat→UInt8) (i:Nat) (F:List Il.In) (Fs:List (List Il.In)) (S:Il.Sk):Il.Sk :=
 Il.mP LF ch (i+1) Fs ((Il.ow LF i (ch i) S).1,Il.gV (Il.ow LF i (ch i) S).2 F)
theorem Cu {LF:Nat→Nat}{ch:Nat→UInt8}{i:Nat}{F:List Il.In}{Fs:List (List Il.In)}{x:Nat×Nat×Nat}{X:List (Nat×Nat×Nat)}{st:List (List Il.In)}(h:x.2.1=i):after LF ch i F Fs (x::X,st)=after LF ch i F Fs (X,Il.N2 st x.2.2):=by
 unfold after Il.ow;have e:Il.closeAll i (x::X) st=Il.closeAll i X (Il.N2 st x.2.2):=by
  conv=>lhs;unfold Il.closeAll
  rw [if_pos h]
 simp only [e]
theorem xW {i:Nat}{x:Nat×Nat×Nat}{X:List (Nat×Nat×Nat)}{st:List (List Il.In)}(h:x.2.1≠i):Il.closeAll i (x::X) st=(x::X,st):=by unfold Il.closeAll;rw [if_neg h]
theorem KD (A:Option Addr) (n c:Nat) (h:1≤n) (w:World):(Instr.slice 236 (.slice A n c) (some (.int .i64 1)) none none).run Tryz.prog w=.ok (.slice (ua 3 A c 1) (n-1) (c-1)) w:=by
 have hT:Tryz.prog.underlying 236=some (.slice (Tryz.prog.elem 236)):=by kernel_rfl
 have hsz:∀ w,(sizeOf (Tryz.prog.elem 236)).run Tryz.prog w=.ok 3 w:=fun w=>by kernel_rfl
 rw [run_slice_l w 236 A n c hT .i64 1 (by omega) (by omega),hsz];simp [sliced,ua,Result.andThen]
theorem Ni {w:World}{Q:Nat→Prop}{size n:Nat}{A:Option Addr}{xs:List Value}(h:eu w Q size A n xs) {c lo:Nat}(h1:lo≤n) (h3:n≤c) :
  eu w Q size (ua size A c lo) (n-lo) (xs.drop (lo*size)):=by
 refine ⟨by rw [List.length_drop,h.1,Nat.sub_mul],fun hn=>?_⟩;obtain ⟨b,o,rfl,hb,hc⟩:=h.2 (by omega);refine ⟨b,o+lo*size,?_,hb,fun j u hu=>?_⟩
 ·unfold ua
  rw [if_neg (by omega)];simp only [Option.map_some,Addr.add]
  split
  ·rename_i h0;rw [h0];rfl
  ·rfl
 ·have:=hc (lo*size+j) u (by rwa [List.getElem?_drop] at hu)
  rwa [← Nat.add_assoc] at this
theorem D3 (X:List (Nat×Nat×Nat)) (k:Nat):(gI (X.drop k)).drop 3=gI (X.drop (k+1)):=by
 rcases Nat.lt_or_ge k X.length with h | h
 ·rw [List.drop_eq_getElem_cons h];rfl
 ·rw [List.drop_eq_nil_of_le h,List.drop_eq_nil_of_le (show X.length≤k+1 by omega)];rfl
theorem GM {X:List (Nat×Nat×Nat)}{k i:Nat}(hk:k<X.length) (hg:∀ x∈X,x.1<x.2.1) (hle:∀ x∈X.take k,x.2.1≤i) (hx:X[k].2.1=i):k+1≤X.countP fun x=>decide (x.1<i):=by
 have h1:(X.take (k+1)).countP (fun x=>decide (x.1<i))=(X.take (k+1)).length:=by
  rw [List.countP_eq_length];intro x hx2;rw [List.take_succ_eq_append_getElem hk] at hx2;rcases List.mem_append.1 hx2 with h | h
  ·have:=hle x h
   have:=hg x (List.mem_of_mem_take h);simp;omega
  ·obtain rfl:=List.mem_singleton.1 h
   have:=hg _ (List.getElem_mem hk);simp;omega
 have h2:X.countP (fun x=>decide (x.1<i))=(X.take (k+1)).countP (fun x=>decide (x.1<i))+(X.drop (k+1)).countP (fun x=>decide (x.1<i)):=by
  rw [← List.countP_append,List.take_append_drop]
 rw [List.length_take] at h1;omega
theorem NM {α:Type}{l:List α}(h:2≤l.length):∃ N R K,l=N++[R]++[K]:=by
 rcases List.eq_nil_or_concat l with e | ⟨o,K,e⟩
 ·subst e;simp at h
 ·rw [List.concat_eq_append] at e
  subst e;rcases List.eq_nil_or_concat o with e | ⟨N,R,e⟩
  ·subst e;simp at h
  ·rw [List.concat_eq_append] at e
   subst e;exact ⟨N,R,K,rfl⟩
def DQ:Value→Nat
 | .slice _ n _=>n
 | _=>0
theorem Gf (B:Nat) (m0:Ky→Option Pa) (w0:World) (X:List (Nat×Nat×Nat)) (i C M:Nat) (LF:Nat→Nat) (ch:Nat→UInt8) (F:List Il.In) (Fs:List (List Il.In)) (fin:Il.Sk) (hg:∀ x∈X,x.1<x.2.1∧x.2.1≤4000000∧x.2.2≤2) (hC:C=X.countP fun x=>decide (x.1<i)) (hM:M≤1000000000) (VR:X.length≤400000000)
  (k:Nat) (A:Option Addr) (c:Nat) (v:Value) (ns:List Il.Rw) (V:List V3) (w:World) (h0:FS B m0 w0 X k A c v ns V w) (h1:after LF ch i F Fs (X.drop k,stk ns)=fin) (h2:ns.length+k=1+C) (h3:∀ x∈X.take k,x.2.1≤i) (h4:Il.gD ns+2*(X.length-k)≤M) (hB:B≤w.heap.size)
  (s0 s1 s2 s3 s4 s6 s7 s10 s11 s12 s13 s14 s15 s16 s17 s18 s19 s20 s21 s22 s23 s24 s25 s26 s27 s28 s29 s30 s31 s32 s33 s34 s35 s36 s37 s38 s39 s40 s41 s42 s43 s44 s45 s46 s47 s48 s49 s50 s51 s52 s53 s54 s55 s56 s57 s58 s59 s60 s61 s62 s63 s64 s65 s66 s67 s68 s69 s70 s71 s72 s73 s74 s75 s76 s77 s78 s79 s80 s81 s82 s83 s84 s85 s86:Value) (Q0:Exit→Act→World→Prop)
  (nw:∀ (k':Nat) (A':Option Addr) (c':Nat) (v':Value) (ns':List Il.Rw) (V':List V3) (u36 u37 u38 u39 u40 u41 u42 u43 u44 u45 u46 u47 u48 u49 u50 u51 u52 u53 u54 u55:Value) (wq:World),Hid (FS B m0 w0 X k' A' c' v' ns' V' wq)∧Hid (after LF ch i F Fs (X.drop k',stk ns')=fin)∧(ns').length+k'=1+C∧Hid (∀ x∈X.take k',x.2.1≤i)∧Il.gD ns'+2*(X.length-k')≤M→Il.closeAll i (X.drop k') (stk ns')=(X.drop k',stk ns')→Q0 (.exit 2) ⟨(s0::s1::s2::s3::s4 :: .slice A' (X.length-k') c'::s6::s7::v' :: .int .i64 (i:Int)::s10::s11::s12::s13::s14::s15::s16::s17::s18::s19::s20::s21::s22::s23::s24::s25::s26::s27::s28::s29::s30::s31::s32::s33::s34::s35::u36::u37::u38::u39::u40::u41::u42::u43::u44::u45::u46::u47::u48::u49::u50::u51::u52::u53::u54::u55::s56::s57::s58::s59::s60::s61::s62::s63::s64::s65::s66::s67::s68::s69::s70::s71::s72::s73::s74::s75::s76::s77::s78::s79::s80::s81::s82::s83::s84::s85::s86::[]).toArray,[]⟩ wq) :
  Code.wp Tryz.prog (Code.loop (DX Tryz.f174 1)) Q0 ⟨(s0::s1::s2::s3::s4 :: .slice A (X.length-k) c::s6::s7::v :: .int .i64 (i:Int)::s10::s11::s12::s13::s14::s15::s16::s17::s18::s19::s20::s21::s22::s23::s24::s25::s26::s27::s28::s29::s30::s31::s32::s33::s34::s35::s36::s37::s38::s39::s40::s41::s42::s43::s44::s45::s46::s47::s48::s49::s50::s51::s52::s53::s54::s55::s56::s57::s58::s59::s60::s61::s62::s63::s64::s65::s66::s67::s68::s69::s70::s71::s72::s73::s74::s75::s76::s77::s78::s79::s80::s81::s82::s83::s84::s85::s86::[]).toArray,[]⟩ w:=by
 replace nw:=Lib.hid nw;replace h0:=Lib.hid h0;replace h1:=Lib.hid h1;replace h3:=Lib.hid h3;replace hg:=Lib.hid hg;replace hC:=Lib.hid hC;have hBw:Hid (∀ u,Below B w u→B≤u.heap.size):=Lib.hid (fun u hu=>Nat.le_trans hB hu.size)
 conv=>arg 2;arg 1;whnf
 go_loopw [5,8] (fun a b wr=>∃ (k:Nat) (A:Option Addr) (c:Nat) (v:Value) (ns:List Il.Rw) (V:List V3),a=.slice A (X.length-k) c∧b=v∧Hid (FS B m0 w0 X k A c v ns V wr)∧Hid (after LF ch i F Fs (X.drop k,stk ns)=fin)∧(ns).length+k=1+C∧Hid (∀ x∈X.take k,x.2.1≤i)∧Il.gD ns+2*(X.length-k)≤M∧B≤wr.heap.size) (fun a _ _=>DQ a)
 case atStart=>exact ⟨k,A,c,v,ns,V,rfl,rfl,h0,h1,h2,h3,h4,hB⟩
 case round =>
  clear h0 h1 h2 h3 h4 hB hBw;obtain ⟨k,A,c,v,ns,V,rfl,rfl,h0,h1,h2,h3,h4,hB⟩:=hrel;have hkl:=h0.out.kl
  by_cases hlt:k<X.length
  ·have Tq:=h0.out.pr
   obtain ⟨b,o,rfl,Dx,hcell⟩:=Tq.2 (by omega);have Gv:X.drop k=X[k]::X.drop (k+1):=List.drop_eq_getElem_cons hlt;have hat:∀ j,j<3→(gI (X.drop k))[j]? = (uT X[k])[j]? := fun j hj=>by
    rw [Gv];show (uT X[k]++gI (X.drop (k+1)))[j]? = _;rw [List.getElem?_append_left (by simpa [uT] using hj)]
   have Ya:=hg.out _ (List.getElem_mem hlt);have hcm:=fun e=>GM hlt (fun x hx=>(hg.out x hx).1) h3.out e;have htk:X.take (k+1)=X.take k++[X[k]]:=List.take_succ_eq_append_getElem hlt;generalize X[k]=x at hat Ya Gv hcm htk;obtain ⟨pa,pb,ps⟩:=x;have x1:=hcell _ _ (hat 1 (by omega));have x2:=hcell _ _ (hat 2 (by omega));simp only at Ya hcm;have hbr:b<wr.heap.size:=Dx.2.1;have hn0:0<X.length-k:=by omega
   obtain ⟨n,hn⟩:∃ n,n=X.length-k:=⟨_,rfl⟩
   rw [← hn] at hn0 ⊢;have hcap:n≤c:=by rw [hn];exact h0.out.cap
   by_cases uS:pb=i
   ·have t1:((pb:Int)==(i:Int))=true:=by simp [uS]
    have hcm2:=hcm uS;rw [← hC.out] at hcm2;obtain ⟨N,R,K,hns⟩:=NM (l:=ns) (by omega);subst hns;have hwN:Il.gD (N++[R]++[K])=Il.gD N+R.wt+K.wt:=by
     rw [Il.eI,Il.eI,Il.fV,Il.fV];have:Il.gD []=0:=rfl;omega
    have Yz:N.length+2+k=1+C:=by simpa using h2
    have hCX:C≤X.length:=by rw [hC.out];exact List.countP_le_length
    have Ny:=Lib.hid (Jj (m:=Ae) ⟨by decide,by decide,by decide⟩ N R K h0.out.rs hB (Il.kd ps) (by omega) (by omega) (by omega));have hst:=Lib.hid (fun w=>Cp ps (by omega) w);have hcut:=fun w=>KD (some ⟨b,o,none⟩) n c (by omega) w;have Za:=Lib.hid (Ni Tq (c:=c) (lo:=1) (by omega) h0.out.cap);have hok:=Lib.hid h0.out.ok;have Be:Il.kd ps≠0:=by unfold Il.kd;split<;>omega
    have hwp:=R.E7 (.mk (Il.kd ps) [] [] K.full);have xb:Hid (after LF ch i F Fs (X.drop (k+1),stk (N++[R.put (.mk (Il.kd ps) [] [] K.full)]))=fin):=Lib.hid (by
     rw [← h1.out,Gv,Cu uS,RT,p5,Il.Rw.xj R Be];rfl)
    have hle:Hid (∀ x∈X.take (k+1),x.2.1≤i):=Lib.hid (fun x hx=>by
     rw [htk] at hx;rcases List.mem_append.1 hx with h | h
     ·exact h3.out x h
     ·obtain rfl:=List.mem_singleton.1 h;simp only;omega)
    have hwt:Il.gD (N++[R.put (.mk (Il.kd ps) [] [] K.full)])+2*(X.length-(k+1))≤M:=by
     rw [Il.eI,Il.fV];have e1:Il.gD []=0:=rfl;have e2:Il.eS (.mk (Il.kd ps) [] [] K.full)=0:=rfl;omega
    replace uS:=Lib.hid uS;replace Gv:=Lib.hid Gv;replace htk:=Lib.hid htk;replace hn:=Lib.hid hn;replace Be:=Lib.hid Be;replace hwN:=Lib.hid hwN;replace Yz:=Lib.hid Yz;replace hwp:=Lib.hid hwp;replace hC:=Lib.hid hC.out;obtain ⟨kk,hkk⟩:∃ kk,kk=Il.kd ps:=⟨_,rfl⟩
    rw [← hkk] at Ny xb hwt hst Be;replace hkk:=Lib.hid hkk;clear hcell hat Tq Dx nw;go_wp2_with fail;refine (hst.out _).mono ?_;rintro e wz ⟨rfl,rfl⟩;go_wp2_with fail;refine Ny.out.mono ?_;rintro e w3 ⟨v3,rfl,V3,nN,uB⟩;have LA:=uB.gA Za.out;have uf:n-1=X.length-(k+1):=by rw [hn.out];omega
    have h03:Hid (FS B m0 w0 X (k+1) (ua 3 (some ⟨b,o,none⟩) c 1) (c-1) v3 (N++[R.put (.mk kk [] [] K.full)]) V3 w3):=Lib.hid
     ⟨nN,by rw [Nat.one_mul,D3,Nat.sub_sub] at LA;exact LA,by omega,by omega,fun Z hZ=>by
      rcases List.mem_append.1 hZ with h | h
      ·exact hok.out Z (by simp [h])
      ·obtain rfl:=List.mem_singleton.1 h
       exact Il.Rw.GD (hok.out R (by simp)) Be.out _ _ _,h0.out.tu.trans uB⟩
    have jy:B≤w3.heap.size:=Nat.le_trans hB uB.bel.size;have NN:(N++[R.put (.mk kk [] [] K.full)]).length+(k+1)=1+C:=by
     have:=Yz.out;simp;omega
    replace NN:=Lib.hid NN;clear nN uB LA h0 Ny;go_wp2_with fail
    go_roundw
    case rel=>exact ⟨k+1,_,c-1,v3,_,V3,by first | rfl | rw [uf],rfl,h03,xb,NN.out,hle,hwt,jy⟩
    case measure=>simp [DQ];omega
   ·have t1:((pb:Int)==(i:Int))=false:=by simp;omega
    have hstop:Hid (Il.closeAll i (X.drop k) (stk ns)=(X.drop k,stk ns)):=Lib.hid (by rw [Gv];exact xW uS);replace uS:=Lib.hid uS;replace Gv:=Lib.hid Gv;replace htk:=Lib.hid htk;replace hn:=Lib.hid hn;clear hcell hat Tq Dx hcm;go_wp2_with fail;rw [hn.out];exact nw.out k _ c u8 ns V _ _ _ _ _ _ _ _ _ _ _ _ _ _ _ _ _ _ _ _  wr ⟨h0,h1,h2,h3,h4⟩ hstop.out
  ·have XP:X.length-k=0:=by omega
   have hstop:Hid (Il.closeAll i (X.drop k) (stk ns)=(X.drop k,stk ns)):=Lib.hid (by rw [List.drop_eq_nil_of_le (by omega)];rfl);obtain ⟨n,hn⟩:∃ n,n=X.length-k:=⟨_,rfl⟩
   rw [← hn];have hn0:¬ 0<n:=by omega
   replace hn:=Lib.hid hn;replace XP:=Lib.hid XP;go_wp2_with fail;rw [hn.out];exact nw.out k A c u8 ns V _ _ _ _ _ _ _ _ _ _ _ _ _ _ _ _ _ _ _ _  wr ⟨h0,h1,h2,h3,h4⟩ hstop.out
end Go.Proofs.YtddkjkockbcamaaGreatDoor
namespace Go.Proofs.YtddkjkockbcamaaGreatDoor
open Go.RowKit
attribute [local go_sem] aD av aq
theorem kj {α:Type}{ns:List α}(h:ns≠[]):∃ R,ns[ns.length-1]? = some R∧∀ f:α→α,Il.aX f ns=ns.set (ns.length-1) (f R):=by
 have hp:0<ns.length:=List.length_pos_iff.2 h;refine ⟨ns[ns.length-1]'(by omega),List.getElem?_eq_getElem (by omega),fun f=>Il.K5 f (by omega) (by omega)⟩
theorem IB {b:UInt8}(h:b.toNat<128):Lib.encodeRune ((b.toNat:Nat):Int)=[b]:=by
 unfold Lib.encodeRune;rw [Lib.encodeRuneZ_one (by omega) (by omega)];simp
theorem FS.say {B:Nat}{m0:Ky→Option Pa}{w0:World}{X:List (Nat×Nat×Nat)}{k:Nat}{A:Option Addr}{c:Nat}{v:Value}{ns:List Il.Rw}{V:List V3}{w w':World}(h:FS B m0 w0 X k A c v ns V w) {f:Il.Rw→Il.Rw}(hf:∀ R,R.ok→(f R).ok) {V':List V3}(hR:RS w' B Ae 6 7 8 v (Il.aX f ns) V') (t:bV B (az Ae 6 7 8 v ns V) w (az Ae 6 7 8 v (Il.aX f ns) V') w'):FS B m0 w0 X k A c v (Il.aX f ns) V' w' :=
 ⟨hR,t.gA h.pr,h.cap,h.kl,Il.nI h.ok hf,h.tu.trans t⟩
theorem Nt (B:Nat) (m0:Ky→Option Pa) (w0:World) (X:List (Nat×Nat×Nat)) (L bx:Nat) (b:UInt8) (rn:Int) (ro rc:Bool) (hb:b.toNat<128) (hL:L≤1000000000) (k:Nat) (A:Option Addr) (c:Nat) (v:Value) (ns:List Il.Rw) (V:List V3) (w:World) (h0:FS B m0 w0 X k A c v ns V w) (hne:ns≠[]) (hnl:ns.length≤1000000000) (hw:Il.gD ns≤1000000000) (hB:B≤w.heap.size)
  (rq:Fr w B (az Ae 6 7 8 v ns V) bx) (hbc:w.heap[bx]? = some (.cells #[.int .u8 (b.toNat:Int),.int .i64 rn,.bool ro,.bool rc] 240))
  (s0 s1 s2 s3 s4 s5 s6 s7 s9 s11 s12 s13 s14 s15 s16 s17 s18 s19 s20 s21 s22 s23 s24 s25 s26 s27 s28 s29 s30 s31 s32 s33 s34 s35 s36 s37 s38 s39 s40 s41 s42 s43 s44 s45 s46 s47 s48 s49 s50 s51 s52 s53 s54 s55 s56 s57 s58 s61 s62 s63 s64 s65 s66 s67 s68 s69 s70 s71 s72 s73 s74 s75 s76 s77 s78 s79 s80 s81 s82 s83 s84 s85 s86:Value) (Q0:Exit→Act→World→Prop) (bI:∀ c a d v w,Q0 (.panic c) (Act.put a d v) w→Q0 (.panic c) a w)
  (nw:∀ (V':List V3) (u60 u61 u62 u63 u64 u65 u66 u67 u68:Value) (wq:World),FS B m0 w0 X k A c v (Il.aX (fun R=>R.say (List.replicate L b)) ns) V' wq→B≤wq.heap.size→Q0 (.exit 4) ⟨(s0::s1::s2::s3::s4::s5::s6::s7::v::s9 :: .pointer (some ⟨bx,0,none⟩)::s11::s12::s13::s14::s15::s16::s17::s18::s19::s20::s21::s22::s23::s24::s25::s26::s27::s28::s29::s30::s31::s32::s33::s34::s35::s36::s37::s38::s39::s40::s41::s42::s43::s44::s45::s46::s47::s48::s49::s50::s51::s52::s53::s54::s55::s56::s57::s58 :: .int .i64 (L:Int)::u60::u61::u62::u63::u64::u65::u66::u67::u68::s69::s70::s71::s72::s73::s74::s75::s76::s77::s78::s79::s80::s81::s82::s83::s84::s85::s86::[]).toArray,[]⟩ wq) :
  Code.wp Tryz.prog (Code.loop (DX Tryz.f174 2)) Q0 ⟨(s0::s1::s2::s3::s4::s5::s6::s7::v::s9 :: .pointer (some ⟨bx,0,none⟩)::s11::s12::s13::s14::s15::s16::s17::s18::s19::s20::s21::s22::s23::s24::s25::s26::s27::s28::s29::s30::s31::s32::s33::s34::s35::s36::s37::s38::s39::s40::s41::s42::s43::s44::s45::s46::s47::s48::s49::s50::s51::s52::s53::s54::s55::s56::s57::s58 :: .int .i64 (L:Int) :: .int .i64 0::s61::s62::s63::s64::s65::s66::s67::s68::s69::s70::s71::s72::s73::s74::s75::s76::s77::s78::s79::s80::s81::s82::s83::s84::s85::s86::[]).toArray,[]⟩ w:=by
 obtain ⟨g,cp,hv,_,_,_⟩:=h0.rs.slice (List.length_pos_iff.2 hne);have hwr:IntKind.i32.wrap (b.toNat:Int)=(b.toNat:Int):=by unfold IntKind.wrap;simp [IntKind.bits,IntKind.signed];omega
 have hn0:0<ns.length:=List.length_pos_iff.2 hne;have Yv:Il.aX (fun R=>R.say (List.replicate 0 b)) ns=ns:=by
  obtain ⟨R,h1,h2⟩:=kj hne;rw [h2];have e:R.say (List.replicate 0 b)=R:=by unfold Il.Rw.say;simp
  rw [e];obtain ⟨h3,h4⟩:=List.getElem?_eq_some_iff.1 h1
  conv=>rhs;rw [← List.set_getElem_self h3,h4]
 have hstart:=Lib.hid (show FS B m0 w0 X k A c v (Il.aX (fun R=>R.say (List.replicate 0 b)) ns) V w∧Fr w B (az Ae 6 7 8 v (Il.aX (fun R=>R.say (List.replicate 0 b)) ns) V) bx from by rw [Yv];exact ⟨h0,rq⟩);obtain ⟨nl,QD⟩:∃ nl,nl=ns.length:=⟨_,rfl⟩
 rw [← QD] at hv hnl hn0;have b9:=fun w=>gT g nl cp hn0 (by omega) w;replace nw:=Lib.hid nw;replace bI:=Lib.hid bI;replace hbc:=Lib.hid hbc;replace hne:=Lib.hid hne;replace QD:=Lib.hid QD;have hwj:=Lib.hid (fun j (_:j≤L)=>(show Il.gD (Il.aX (fun R=>R.say (List.replicate j b)) ns)≤2000000000 from by
  have:=Il.iX (f:=fun R=>R.say (List.replicate j b)) (k:=j) (fun R=>by rw [Il.Rw.rS,List.length_replicate];exact Nat.le_refl _) ns;omega))
 replace hv:=Lib.hid hv;clear h0 rq Yv
 conv=>arg 2;arg 1;whnf
 rw [hv.out]
 go_loopw [60] (fun a wr=>∃ (j:Nat) (V':List V3),a=.int .i64 (j:Int)∧j≤L∧Hid (FS B m0 w0 X k A c v (Il.aX (fun R=>R.say (List.replicate j b)) ns) V' wr)∧Hid (Fr wr B (az Ae 6 7 8 v (Il.aX (fun R=>R.say (List.replicate j b)) ns) V') bx)∧Hid (wr.heap[bx]? = some (.cells #[.int .u8 (b.toNat:Int),.int .i64 rn,.bool ro,.bool rc] 240))∧B≤wr.heap.size) (fun a _=>L-(intOf a).toNat)
 case atStart=>exact ⟨0,V,rfl,by omega,Lib.hid hstart.out.1,Lib.hid hstart.out.2,hbc,hB⟩
 case round =>
  clear hstart hbc;obtain ⟨j,V',rfl,hj,hF,hfb,jB,ug⟩:=hrel
  by_cases hlt:j<L
  ·have hjn:Il.aX (fun R=>R.say (List.replicate j b)) ns≠[]:=Il.EK hne.out
   obtain ⟨R,hR1,hR2⟩:=kj hjn;have hjl:(Il.aX (fun R=>R.say (List.replicate j b)) ns).length=nl:=by rw [Il.kr,QD.out]
   have hnext:Il.aX (fun R=>R.say [b]) (Il.aX (fun R=>R.say (List.replicate j b)) ns)=Il.aX (fun R=>R.say (List.replicate (j+1) b)) ns:=by
    rw [Il.tg];congr 1
    funext R
    unfold Il.Rw.say;simp [List.replicate_succ']
   have Fm:=Il.lQ (List.mem_of_getElem? hR1);have adb:=hwj.out j hj;rw [hjl] at hR1 hR2;obtain ⟨x1,y1,z1,e1,q1,i1⟩:=hF.out.rs.look ⟨by decide,by decide,by decide⟩ hR1;have hc1:=hF.out.rs.cn (i:=nl-1) (g:=g) (cp:=cp) (by rw [hjl];exact hv.out) (by rw [hjl];omega);have hRp:R.p.length≤2000000000:=by unfold Il.Rw.wt at Fm;omega
   have aG:=Lib.hid (iO (eN ⟨by decide,by decide,by decide⟩ (nl-1)) hc1 q1 ug b.toNat (by unfold Ru.vr;omega) (by omega));rw [IB hb] at aG;have hturn:=Lib.hid (fun (w':World) (vp':Value) t=>hF.out.rs.turned (w':=w') (R':=R.say [b]) (x:=x1) (y:=vp') (z:=z1) ⟨by decide,by decide,by decide⟩ hR1 e1 t (t.kids i1));have hS:(fun u:World=>u.heap[bx]? = some (.cells #[.int .u8 (b.toNat:Int),.int .i64 rn,.bool ro,.bool rc] 240)) wr.drew:=jB.out;have nt:Hid (Calls Tryz.prog 205 #[.pointer (some ⟨g,(nl-1)*2,none⟩),.int .i32 (b.toNat:Int)] wr.drew fun e w'=>e=.returned (.tuple #[])∧∃ V2,FS B m0 w0 X k A c v (Il.aX (fun R=>R.say (List.replicate (j+1) b)) ns) V2 w'∧Fr w' B (az Ae 6 7 8 v (Il.aX (fun R=>R.say (List.replicate (j+1) b)) ns) V2) bx∧w'.heap[bx]? = some (.cells #[.int .u8 (b.toNat:Int),.int .i64 rn,.bool ro,.bool rc] 240)∧B≤w'.heap.size):=Lib.hid (by
    have hq:Hq wr.drew B (aN (az Ae 6 7 8 v (Il.aX (fun R=>R.say (List.replicate j b)) ns) V') (mu 6 7 8 (nl-1)) (BT v (Il.aX (fun R=>R.say (List.replicate j b)) ns).length V' (nl-1)) R x1 y1 z1):=q1.mM.hp;have:=iO (eN ⟨by decide,by decide,by decide⟩ (nl-1)) hc1 hq ug b.toNat (by unfold Ru.vr;omega) (by omega);rw [IB hb] at this;refine this.mono ?_;rintro e w3 ⟨rfl,vp',t⟩;obtain ⟨nN,uB⟩:=hturn.out w3 vp' (q1.mM.trans t);rw [← hR2 (fun R=>R.say [b]),hnext] at nN uB;obtain ⟨f1,f2⟩:=uB.fre _ hfb.out;have hF2:FS B m0 w0 X k A c v (Il.aX (fun R=>R.say (List.replicate (j+1) b)) ns) (V'.set (nl-1) (x1,vp',z1)) w3 :=
     ⟨nN,uB.gA hF.out.pr,hF.out.cap,hF.out.kl,by
      rw [← hnext];exact Il.nI hF.out.ok fun R hR=>Il.Rw.An hR (Il.OI hb 1),hF.out.tu.trans uB⟩
    exact ⟨rfl,_,hF2,f2,f1.trans jB.out,Nat.le_trans ug uB.bel.size⟩)
   clear hturn aG q1 i1 hc1 Fm hR1 hF hfb e1;replace hnext:=Lib.hid hnext;replace hjl:=Lib.hid hjl;replace hR2:=Lib.hid hR2;replace jB:=Lib.hid jB.out;clear nw;obtain ⟨nm,hnm⟩:∃ nm,nm=(nl-1)*2:=⟨_,rfl⟩
   rw [← hnm] at b9 nt;clear hnm;go_upto_region 14 with fail
   refine aE (.rd 0 (.rd 2 (.rd 3 (.rd 4 (.mk 1 (.mk 5 .fin)))))) (fun u:World=>u.heap[bx]? = some (.cells #[.int .u8 (b.toNat:Int),.int .i64 rn,.bool ro,.bool rc] 240)) hS (by kernel_rfl) (by kernel_rfl) (by kernel_rfl) (fun _ _ d _ _ h=>by cases d<;>exact bI.out _ _ _ _ _ h) ?_
   iterate 2 (first | refine an rfl ?_ | (refine ay rfl ?_;intro K hK;go_simp;refine hK _ _ _ ?_;clear hK K))
   refine aH (.int .u8 (b.toNat:Int)) rfl rfl hS (fun u hu=>by
    have h1:=ah (j:=0) hu;go_simp) ?_
   (first | refine an rfl ?_ | (refine ay rfl ?_;intro K hK;go_simp;refine hK _ _ _ ?_;clear hK K))
   refine aC rfl ?_;intro K hK;go_simp;refine (b9 _).mono ?_;rintro e w2 ⟨rfl,rfl⟩;refine ⟨_,hS,fun _ h=>h,hK _ _ _ ?_⟩;clear hK K;refine aC rfl ?_;intro K hK;go_simp;refine nt.out.mono ?_;rintro e w3 ⟨rfl,V2,hF2,hf2,hb2,hB2⟩;have eV:(fun u:World=>u.heap[bx]? = some (.cells #[.int .u8 (b.toNat:Int),.int .i64 rn,.bool ro,.bool rc] 240)) w3:=hb2;refine ⟨_,eV,fun _ h=>h,hK _ _ _ ?_⟩;clear hK K eV hS nt b9;replace hF2:=Lib.hid hF2;replace hf2:=Lib.hid hf2;replace hb2:=Lib.hid hb2;refine aM ?_;go_wp2_with fail
   go_roundw
   case rel=>exact ⟨j+1,V2,by go_num,by omega,hF2,hf2,hb2,hB2⟩
   case measure=>simp [intOf];omega
  ·have ZT:j=L:=by omega
   subst ZT;have hx:=Lib.hid (fun u60 u61 u62 u63 u64 u65 u66 u67 u68=>nw.out V' u60 u61 u62 u63 u64 u65 u66 u67 u68 wr hF.out ug);rw [hv.out] at hx;clear nw;go_wp2_with fail;exact hx.out _ _ _ _ _ _ _ _ _
theorem GV:EI Tryz.prog 218 216 2 48:=EI.mk' (z:=.agg #[.slice none 0 0,.slice none 0 0]) (by kernel_rfl) (by kernel_rfl) rfl (by omega)
theorem JR (j:Nat):(Builtin.zeroCells (Value.agg #[.slice none 0 0,.slice none 0 0]).cells j).toList=aS (List.replicate j (.slice none 0 0,.slice none 0 0,[])):=by
 apply List.ext_getElem?;intro i;have hl:(aS (List.replicate j ((.slice none 0 0,.slice none 0 0,[]):V3))).length=j*2:=by rw [jM,List.length_replicate]
 have hz:(Builtin.zeroCells (Value.agg #[.slice none 0 0,.slice none 0 0]).cells j).toList.length=j*2:=by rw [Array.length_toList,size_zeroCells];rfl
 rcases Nat.lt_or_ge i (j*2) with h | h
 ·have e1:∀ u∈(Builtin.zeroCells (Value.agg #[.slice none 0 0,.slice none 0 0]).cells j).toList,u=Value.slice none 0 0:=by
   intro u hu;simp only [Builtin.zeroCells,Array.toList_map,List.mem_map] at hu;obtain ⟨q,_,rfl⟩:=hu;have hq:q%2=0∨q%2=1:=by omega
   show (#[Value.slice none 0 0,Value.slice none 0 0])[q%2]! = _;rcases hq with e | e<;>rw [e]<;>rfl
  have e2:∀ u∈aS (List.replicate j ((.slice none 0 0,.slice none 0 0,[]):V3)),u=Value.slice none 0 0:=by
   intro u hu;simp only [aS,List.mem_flatMap] at hu;obtain ⟨x,hx,hu⟩:=hu;obtain rfl:=(List.mem_replicate.1 hx).2;simpa using hu
  rw [List.getElem?_eq_getElem (by omega),List.getElem?_eq_getElem (by omega),e1 _ (List.getElem_mem _),e2 _ (List.getElem_mem _)]
 ·rw [List.getElem?_eq_none (by omega),List.getElem?_eq_none (by omega)]
theorem So (ns:List Il.Rw):(stk ns).length=ns.length:=by simp [stk]
theorem zm {ns:List Il.Rw}(h:ns≠[]):∃ N R,ns=N++[R]:=by
 rcases List.eq_nil_or_concat ns with e | ⟨o,y,e⟩
 ·exact absurd e h
 ·exact ⟨o,y,by rw [e,List.concat_eq_append]⟩
theorem RX {ns:List Il.Rw}(h:ns≠[]) (hok:∀ R∈ns,R.ok) (s:List UInt8):stk (Il.aX (fun R=>R.say s) ns)=Il.dD (stk ns) (Il.word s):=by
 obtain ⟨N,R,rfl⟩:=zm h;rw [Il.bW,p5,p5,Il.Rw.qv (hok R (by simp))];rfl
theorem Mk (ns:List Il.Rw) (o:Nat):stk (ns++List.replicate o Il.Rw.nil)=List.replicate o []++stk ns:=by
 simp [stk,Il.Rw.Mi]
theorem NT {ns:List Il.Rw}(h:ns≠[]) (hok:∀ R∈ns,R.ok) {v:Il.Rw}(hv:v.ok):stk (Il.aX (fun R=>R.join v) ns)=Il.gV (stk ns) v.full:=by
 obtain ⟨N,R,rfl⟩:=zm h;rw [Il.bW,p5,p5,(Il.Rw.CI (hok R (by simp)) hv).2];rfl
theorem Fk (X:List (Nat×Nat×Nat)) (i:Nat):(X.countP fun x=>decide (x.1<i+1))=(X.countP fun x=>decide (x.1<i))+Il.opn X i:=by
 induction X with
 | nil=>rfl
 | cons x X ih =>
  rw [List.countP_cons,List.countP_cons,Il.vH,ih]
  by_cases h1:x.1<i
  ·rw [if_pos (by simp;omega),if_pos (by simpa using h1),if_neg (by omega)];omega
  ·by_cases h2:x.1=i
   ·rw [if_pos (by simp;omega),if_neg (by simpa using h1),if_pos h2];omega
   ·rw [if_neg (by simp;omega),if_neg (by simpa using h1),if_neg h2];omega
theorem Pf {X:List (Nat×Nat×Nat)}{k i:Nat}(hg:∀ x∈X,x.1<x.2.1) (hle:∀ x∈X.take k,x.2.1≤i):Il.opn (X.drop k) i=Il.opn X i:=by
 have e:Il.opn X i=Il.opn (X.take k) i+Il.opn (X.drop k) i:=by
  unfold Il.opn;rw [← List.countP_append,List.take_append_drop]
 have z:Il.opn (X.take k) i=0:=by
  unfold Il.opn;rw [List.countP_eq_zero];intro x hx;have:=hle x hx;have:=hg x (List.mem_of_mem_take hx);simp;omega
 omega
theorem Hq.IK {K K':Type}{w:World}{B:Nat}{m:K→Option Pa}{m2:K'→Option Pa}(h:Hq w B m) {k0:K}{e:TypeId}{s n c:Nat}{A:Option Addr}{xs:List Value}(h0:m k0=some (.row e s (.slice A n c) n xs)) (hs:∀ q x,m2 q=some x→∃ k,k≠k0∧m k=some x):eu w (Fr w B m2) s A n xs:=by
 have ho:w.ownsRow B e s (.slice A n c) n xs:=h.holds _ _ h0;have hr:=jl ho;refine ⟨hr.1,fun hp=>?_⟩;obtain ⟨b,o,h1,h2,h3⟩:=hr.2 hp;refine ⟨b,o,h1,⟨h2.1,h2.2,fun q x hx hb=>?_⟩,h3⟩;obtain ⟨k,hk,hk2⟩:=hs q x hx;exact hk (h.apart _ _ _ _ b hk2 h0 hb (by show (Value.slice A n c).ownBlock=some b;rw [h1];rfl))
theorem FS.ext {B:Nat}{m0:Ky→Option Pa}{w0:World}{X:List (Nat×Nat×Nat)}{k:Nat}{A:Option Addr}{c:Nat}{v:Value}{ns:List Il.Rw}{V:List V3}{w w':World}(h:FS B m0 w0 X k A c v ns V w) (hB:B≤w.heap.size) (hb:Below w.heap.size w w'):FS B m0 w0 X k A c v ns V w':=by
 have t:=h.rs.hp.call hB hb;exact ⟨h.rs.ext hB hb,t.gA h.pr,h.cap,h.kl,h.ok,h.tu.trans t⟩
def I6 (l:List Em.R):Nat:=(l.map fun r=>r.n.toNat).sum
end Go.Proofs.YtddkjkockbcamaaGreatDoor
namespace Go.Proofs.YtddkjkockbcamaaGreatDoor
open Go.RowKit
structure FR (w:World) (Q:Nat→Prop) (runs:List Em.R) (AR:Option Addr) (g1 g2:Nat) (O L:List Nat) (AF:Option Addr) (rs:List Il.Rw) (V:List V3):Prop where
 rn:eu w Q 4 AR runs.length (aF runs)
 o:eu w Q 1 (some ⟨g1,0,none⟩) runs.length (aB O)
 l:eu w Q 1 (some ⟨g2,0,none⟩) runs.length (aB L)
 flat:eu w Q 2 AF rs.length (aS V)
 rows:∀ i,1≤i→∀ (h:i<rs.length) (h':i<V.length),∃ A c Ap cp,V[i].1=.slice A rs[i].l.length c∧V[i].2.1=.slice Ap rs[i].p.length cp∧eu w Q 4 A rs[i].l.length V[i].2.2.flatten∧gB w Q rs[i].l V[i].2.2∧eu w Q 1 Ap rs[i].p.length (aj rs[i].p)
theorem FR.turn {K K':Type}{B:Nat}{m:K→Option Pa}{m':K'→Option Pa}{w w':World}{runs:List Em.R}{AR:Option Addr}{g1 g2:Nat}{O L:List Nat}{AF:Option Addr}{rs:List Il.Rw}{V:List V3}(t:bV B m w m' w') (h:FR w (Fr w B m) runs AR g1 g2 O L AF rs V):FR w' (Fr w' B m') runs AR g1 g2 O L AF rs V :=
 ⟨t.gA h.rn,t.gA h.o,t.gA h.l,t.gA h.flat,fun i h1 h2 h3=>by
  obtain ⟨A,c,Ap,cp,e1,e2,e3,e4,e5⟩:=h.rows i h1 h2 h3;exact ⟨A,c,Ap,cp,e1,e2,t.gA e3,t.kids e4,t.gA e5⟩⟩
theorem OS {V:List V3}{i:Nat}(h:i<V.length):(aS V)[i*2]? = some V[i].1∧(aS V)[i*2+1]? = some V[i].2.1:=by
 have:=fun j (hj:j<2)=>gW (f:=fun x:V3=>[x.1,x.2.1]) (m:=2) (fun _=>rfl) V i j h hj;exact ⟨this 0 (by omega),this 1 (by omega)⟩
theorem Hl {m:Ky→Option Pa}{vF:Value}{rs:List Il.Rw}{V:List V3}{w:World}{B:Nat}(h:RS w B m 3 4 5 vF rs V) (h1:0<rs.length) {AR:Option Addr}{cR:Nat}{runs:List Em.R}(tq:m (1,0)=some (.row 240 4 (.slice AR runs.length cR) runs.length (aF runs))) :
  ∃ (m2:Ky→Option Pa) (R0:Il.Rw) (x0:V3),rs[0]? = some R0∧V[0]? = some x0∧bV B (az m 3 4 5 vF rs V) w m2 w∧m2 (6,0)=none∧m2 (7,0)=some (kX R0 x0.1 x0.2.2)∧m2 (8,0)=some (mA R0 x0.2.1)∧(∀ q,q≠(7,0)→q≠(8,0)→m2 q=none)∧gB w (Fr w B m2) R0.l x0.2.2 ∧
   eu w (Fr w B m2) 4 AR runs.length (aF runs)∧∃ AF cF,vF=.slice AF rs.length cF∧eu w (Fr w B m2) 2 AF rs.length (aS V)∧∀ i,1≤i→∀ (h:i<rs.length) (h':i<V.length),∃ A c Ap cp,V[i].1=.slice A rs[i].l.length c∧V[i].2.1=.slice Ap rs[i].p.length cp∧eu w (Fr w B m2) 4 A rs[i].l.length V[i].2.2.flatten∧gB w (Fr w B m2) rs[i].l V[i].2.2∧eu w (Fr w B m2) 1 Ap rs[i].p.length (aj rs[i].p):=by
 have hV:0<V.length:=by rw [h.len];exact h1
 obtain ⟨g,cF,RB,_,_,_⟩:=h.slice h1;have k4:∀ i (hi:i<rs.length) (hi':i<V.length),az m 3 4 5 vF rs V (4,i)=some (kX rs[i] V[i].1 V[i].2.2):=fun i hi hi'=>by
  unfold az atR;rw [if_neg (by simp),if_pos rfl,List.getElem?_eq_getElem hi,List.getElem?_eq_getElem hi']
 have k5:∀ i (hi:i<rs.length) (hi':i<V.length),az m 3 4 5 vF rs V (5,i)=some (mA rs[i] V[i].2.1):=fun i hi hi'=>by
  unfold az atR;rw [if_neg (by simp),if_neg (by simp),if_pos rfl,List.getElem?_eq_getElem hi,List.getElem?_eq_getElem hi']
 have k1:az m 3 4 5 vF rs V (1,0)=some (.row 240 4 (.slice AR runs.length cR) runs.length (aF runs)):=by
  unfold az;rw [if_neg (by simp),if_neg (by simp),if_neg (by simp)];exact tq
 obtain ⟨m2,hm2⟩:∃ m2:Ky→Option Pa,m2=fun q=>if q=(7,0) then some (kX rs[0] V[0].1 V[0].2.2) else if q=(8,0) then some (mA rs[0] V[0].2.1) else none:=⟨_,rfl⟩
 have hsub:∀ q x,m2 q=some x→(q=(7,0)∧az m 3 4 5 vF rs V (4,0)=some x)∨(q=(8,0)∧az m 3 4 5 vF rs V (5,0)=some x):=fun q x hx=>by
  rw [hm2] at hx;simp only at hx
  by_cases h7:q=(7,0)
  ·rw [if_pos h7] at hx;exact .inl ⟨h7,by rw [k4 0 h1 hV];exact hx⟩
  ·rw [if_neg h7] at hx
   by_cases h8:q=(8,0)
   ·rw [if_pos h8] at hx;exact .inr ⟨h8,by rw [k5 0 h1 hV];exact hx⟩
   ·rw [if_neg h8] at hx;cases hx
 have t:bV B (az m 3 4 5 vF rs V) w m2 w:=h.hp.MN (fun q=>if q=(7,0) then (4,0) else (5,0)) (fun q x hx=>.inl (by
   rcases hsub q x hx with ⟨rfl,h2⟩ | ⟨rfl,h2⟩
   ·simpa using h2
   ·simpa using h2)) (fun q q' x x' hx hx' _ e=>by
   rcases hsub q x hx with ⟨rfl,_⟩ | ⟨rfl,_⟩<;>rcases hsub q' x' hx' with ⟨rfl,_⟩ | ⟨rfl,_⟩<;>simp at e ⊢)
 have free:∀ k0,k0≠(4,0)→k0≠(5,0)→∀ q x,m2 q=some x→∃ k,k≠k0∧az m 3 4 5 vF rs V k=some x:=fun k0 n1 n2 q x hx=>by
  rcases hsub q x hx with ⟨_,h2⟩ | ⟨_,h2⟩
  ·exact ⟨_,Ne.symm n1,h2⟩
  ·exact ⟨_,Ne.symm n2,h2⟩
 refine ⟨m2,rs[0],V[0],List.getElem?_eq_getElem h1,List.getElem?_eq_getElem hV,t,by rw [hm2];rfl,by rw [hm2];rfl,by rw [hm2];rfl,fun q n1 n2=>by rw [hm2];simp only;rw [if_neg n1,if_neg n2],t.kids (h.kids 0 h1 hV),h.hp.IK k1 (free _ (by simp) (by simp)),some ⟨g,0,none⟩,cF,RB,?_,fun i hi1 hi hi'=>?_⟩
 ·have ka:=nO m 3 4 5 vF rs V
  rw [RB] at ka;rw [RB] at h free;exact h.hp.IK ka (free _ (by simp) (by simp))
 ·have o4:w.ownsRow B 35 4 V[i].1 rs[i].l.length V[i].2.2.flatten:=h.hp.holds _ _ (k4 i hi hi')
  have o5:w.ownsRow B 5 1 V[i].2.1 rs[i].p.length (aj rs[i].p):=h.hp.holds _ _ (k5 i hi hi');obtain ⟨A,c,e1,_⟩:=ak o4;obtain ⟨Ap,cp,e2,_⟩:=ak o5;have k4':=k4 i hi hi';have k5':=k5 i hi hi';unfold kX at k4';unfold mA at k5';rw [e1] at k4';rw [e2] at k5';exact ⟨A,c,Ap,cp,e1,e2,h.hp.IK k4' (free _ (by simp;omega) (by simp)),t.kids (h.kids i hi hi'),h.hp.IK k5' (free _ (by simp) (by simp;omega))⟩
theorem FO {m2:Ky→Option Pa}{R0:Il.Rw}{x0:V3}{w:World}{B:Nat}(hp:Hq w B m2) (hB:B≤w.heap.size) (h6:m2 (6,0)=none) (h7:m2 (7,0)=some (kX R0 x0.1 x0.2.2)) (h8:m2 (8,0)=some (mA R0 x0.2.1)) (hno:∀ q,q≠(7,0)→q≠(8,0)→m2 q=none) (hI:gB w (Fr w B m2) R0.l x0.2.2) :
  bV B m2 w (az Ae 6 7 8 (.slice (some ⟨w.heap.size,0,none⟩) 1 1) [R0] [x0]) (w.alloc (.cells #[x0.1,x0.2.1] 216))∧RS (w.alloc (.cells #[x0.1,x0.2.1] 216)) B Ae 6 7 8 (.slice (some ⟨w.heap.size,0,none⟩) 1 1) [R0] [x0]:=by
 have t:=hp.CP (k:=(6,0)) (w':=w.alloc (.cells #[x0.1,x0.2.1] 216)) (.row 216 2 (.slice (some ⟨w.heap.size,0,none⟩) 1 1) 1 [x0.1,x0.2.1]) h6 (aa w _)
  (World.ownsRow_lit w #[x0.1,x0.2.1] 1 hB (by unfold maxLen;omega) rfl) (fun g hg=>by
   have e:some w.heap.size=some g:=hg;injection e with e;omega) hB
 have e:uq m2 (6,0) (.row 216 2 (.slice (some ⟨w.heap.size,0,none⟩) 1 1) 1 [x0.1,x0.2.1])=az Ae 6 7 8 (.slice (some ⟨w.heap.size,0,none⟩) 1 1) [R0] [x0]:=by
  funext q
  obtain ⟨q1,q2⟩:=q;unfold uq az
  by_cases h:(q1,q2)=(6,0)
  ·rw [if_pos h,if_pos h];rfl
  ·rw [if_neg h,if_neg h]
   simp only
   by_cases h1:q1=7
   ·subst h1
    rw [if_pos rfl];rcases q2 with _ | q2
    ·rw [h7];rfl
    ·rw [hno _ (by simp) (by simp)];rfl
   ·rw [if_neg h1]
    by_cases h2:q1=8
    ·subst h2
     rw [if_pos rfl];rcases q2 with _ | q2
     ·rw [h8];rfl
     ·rw [hno _ (by simp) (by simp)];rfl
    ·rw [if_neg h2,hno _ (by simp [h1]) (by simp [h2])]
 rw [e] at t;refine ⟨t,t.hp,rfl,fun i hi hi'=>?_⟩;obtain rfl:i=0:=by simpa using hi
 exact t.kids hI
end Go.Proofs.YtddkjkockbcamaaGreatDoor
namespace Go.Proofs.YtddkjkockbcamaaGreatDoor
open Go.RowKit
attribute [local go_sem] aD av aq
theorem Pd:∀ u∈(Value.agg #[.slice none 0 0,.slice none 0 0]).cells.toList,u.oneCell'=true:=by
 intro u hu;have:u=.slice none 0 0∨u=.slice none 0 0:=by simpa [Value.cells] using hu
 rcases this with rfl | rfl<;>rfl
theorem He {m:Ky→Option Pa}{vF:Value}{rs:List Il.Rw}{V:List V3}{w:World}{B:Nat}{AR:Option Addr}{cR:Nat}(runs:List Em.R) (T:List Il.In) (h:RS w B m 3 4 5 vF rs V) (hB:B≤w.heap.size) (tq:m (1,0)=some (.row 240 4 (.slice AR runs.length cR) runs.length (aF runs)))
  (hlr:rs.length=runs.length+1) (hn:runs.length≤4000000) (uf:1≤runs.length) (hok:∀ R∈rs,R.ok) (hch:∀ r∈runs,r.ch.toNat<128∧0≤r.n∧r.n≤1000000000) (hwt:Il.gD rs≤64000000) (hct:I6 runs≤4000000)
  (hT:∃ R Rs,rs=R::Rs∧Il.mP (Il.pL runs) (fun r=>(Em.get runs r).ch) 0 (Rs.map Il.Rw.full) (Em.pairs runs,[R.full])=([],[T])) :
  Calls Tryz.prog 174 #[vF,.slice AR runs.length cR] w fun e w'=>∃ v,e=.returned v∧∃ css,w'.ownsRow B 35 4 v T.length css.flatten∧gB w' (fun b=>B≤b∧b<w'.heap.size) T css∧Below B w w':=by
 obtain ⟨m2,R0,x0,We,hx0,t2,h6,h7,h8,hno,Qw,IP,AF,cF,rfl,AV,EY⟩:=Hl h (by omega) tq;have hX:=Em.Dc runs;have hinv:=Em.oh runs;obtain ⟨X,Us⟩:∃ X,X=Em.pairs runs:=⟨_,rfl⟩
 have C3:∀ x∈X,x.1<x.2.1∧x.2.1≤4000000∧x.2.2≤2:=fun x hx=>by
  have:=hinv.good x (by rw [Us] at hx;exact hx);exact ⟨this.1,by omega,this.2.2.2.2.1⟩
 have F9:∀ x∈X,x.1<runs.length∧x.2.1<runs.length∧x.1≠x.2.1∧x.2.2≤2:=fun x hx=>by
  have:=hinv.good x (by rw [Us] at hx;exact hx);exact ⟨by omega,this.2.2.1,by omega,this.2.2.2.2.1⟩
 have mm:∀ i,i<runs.length→Em.used X i≤Il.cnt runs i:=fun i hi=>by
  have h1:=hinv.sum i hi;have h2:=(Il.qD (fun r hr=>(hch r hr).2) hi).1;rw [Us];unfold Em.pairs;omega
 have Bz:=fun w hw=>Ga runs AR cR w hw hn;rw [← Us] at hX hT Bz;have HJ:Row w w.heap.size 4 AR runs.length (aF runs):=Ei IP (fun b hb=>hb.2.1);have PK:∀ i,Il.cnt runs i-Em.used X i=Il.pL runs i:=fun i=>by rw [Us];rfl
 have hpos:∀ r∈runs,0≤r.n∧r.n≤1000000000:=fun r hr=>(hch r hr).2;have YN:=h.len;obtain ⟨gF,cF',RB,_,_,YM⟩:=h.slice (by omega);injection RB with hAF _ _;subst hAF;have c00:=(AV.2 (by omega))
 obtain ⟨bF,oF,Rc,_,YH⟩:=c00;injection Rc with Rc;injection Rc with e1 e2;subst e1 e2;have y0:w.cell? ⟨gF,0,none⟩=some x0.1:=by
  obtain ⟨ZV,hv2⟩:=List.getElem?_eq_some_iff.1 hx0;have:=YH 0 x0.1 (by rw [← hv2];exact (OS ZV).1);simpa using this
 have y1:w.cell? ⟨gF,1,none⟩=some x0.2.1:=by
  obtain ⟨ZV,hv2⟩:=List.getElem?_eq_some_iff.1 hx0;have:=YH 1 x0.2.1 (by rw [← hv2];exact (OS ZV).2);simpa using this
 replace YH:=Lib.hid YH;replace t2:=Lib.hid t2;replace Qw:=Lib.hid Qw;replace IP:=Lib.hid IP;replace AV:=Lib.hid AV;replace EY:=Lib.hid EY;replace hno:=Lib.hid hno;replace h6:=Lib.hid h6;replace h7:=Lib.hid h7;replace h8:=Lib.hid h8;replace hT:=Lib.hid hT;replace Bz:=Lib.hid Bz;replace C3:=Lib.hid C3;replace F9:=Lib.hid F9;replace mm:=Lib.hid mm;replace HJ:=Lib.hid HJ;replace PK:=Lib.hid PK;replace hpos:=Lib.hid hpos;replace hch:=Lib.hid hch;replace hok:=Lib.hid hok;replace We:=Lib.hid We;replace hx0:=Lib.hid hx0;replace YN:=Lib.hid YN;replace Us:=Lib.hid Us;replace hinv:=Lib.hid hinv;replace hlr:=Lib.hid hlr;clear h tq;obtain ⟨n,hnn⟩:∃ n,n=runs.length:=⟨_,rfl⟩
 rw [← hnn] at hn uf ⊢;have aas:rs.length=n+1:=by rw [hlr.out,hnn]
 obtain ⟨nf,hnf⟩:∃ nf,nf=rs.length:=⟨_,rfl⟩
 rw [← hnf] at aas ⊢;replace hnn:=Lib.hid hnn;replace hnf:=Lib.hid hnf;have hn0:((n:Int)==0)=false:=by simp;omega
 have hi0:(0:Int)<(nf:Int):=by omega
 go_enter Tryz.func174,Tryz.ntmps174;go_upto_region 3 with fail
 go_wp2_with fail;rw [hnn.out];refine (Bz.out _ HJ.out).mono ?_;rintro e w1 ⟨⟨vp,rfl,hop⟩,hb1⟩;obtain ⟨A5,c5,rfl,hc5⟩:=ak hop;have hz1:=hb1.size;have Xx:=Lib.hid (HJ.out.ext hb1);have Sw:=jl hop;have PT:=Lib.hid (Row.own hop);have hsh:=Lib.hid (DR runs X AR cR A5 c5 w1 Xx.out PT.out (by have:=hnn.out;omega) (by have:=hnn.out;omega) F9.out hpos.out mm.out);rw [← hnn.out] at hsh;rw [← hnn.out];have y0':=(hb1.cell (p:=⟨gF,0,none⟩) YM).trans y0;have y1':=(hb1.cell (p:=⟨gF,1,none⟩) YM).trans y1;replace Sw:=Lib.hid Sw;replace hb1:=Lib.hid hb1;clear hop y0 y1;go_wp2_with fail;refine hsh.out.mono ?_;rintro e w3 ⟨g1,g2,O,L,rfl,C5,hO,hL,hb3⟩;have MP:=ag hb1.out hb3;have z0:=(hb3.cell (p:=⟨gF,0,none⟩) (Nat.lt_of_lt_of_le YM hz1)).trans y0';have z1:=(hb3.cell (p:=⟨gF,1,none⟩) (Nat.lt_of_lt_of_le YM hz1)).trans y1';have Va:=MP.size;have t3:=t2.out.hp.call hB MP;have jy:=Nat.le_trans hB Va;obtain ⟨t4,OA⟩:=FO t3.hp jy h6.out h7.out h8.out hno.out (t3.kids Qw.out);have tot:=Lib.hid (t2.out.trans (t3.trans t4));have hnew:=fun b (h1:w.heap.size≤b) (h2:b<w3.heap.size)=>Hq.new (w':=w3) t2.out.hp hB h1 h2;have LA:=t4.gA (Sw.out.frame (w':=w3) (Q':=Fr w3 B m2) (fun b hb=>hb3.block b hb.2) (fun b hb=>hnew b hb.1 (Nat.lt_of_lt_of_le hb.2 hb3.size)));have LV:=t4.gA ((jl C5.o).frame (w':=w3) (Q':=Fr w3 B m2) (fun _ _=>rfl) (fun b hb=>hnew b (by omega) hb.2));have hL3:=t4.gA ((jl C5.l).frame (w':=w3) (Q':=Fr w3 B m2) (fun _ _=>rfl) (fun b hb=>hnew b (by omega) hb.2));have Jw:=Lib.hid (show FR _ _ runs AR g1 g2 O L (some ⟨gF,0,none⟩) rs V from ⟨t4.gA (t3.gA IP.out),by rw [← hnn.out];exact LV,by rw [← hnn.out];exact hL3,t4.gA (t3.gA AV.out),fun i a b c=>by
  obtain ⟨A,c',Ap,cp,e1,e2,e3,e4,e5⟩:=EY.out i a b c;exact ⟨A,c',Ap,cp,e1,e2,t4.gA (t3.gA e3),t4.kids (t3.kids e4),t4.gA (t3.gA e5)⟩⟩)
 have Ug:R0.ok:=hok.out R0 (List.mem_of_getElem? We.out);have Un:=Lib.hid (show FS B (az Ae 6 7 8 (.slice (some ⟨w3.heap.size,0,none⟩) 1 1) [R0] [x0]) (w3.alloc (.cells #[x0.1,x0.2.1] 216)) X 0 A5 c5 (.slice (some ⟨w3.heap.size,0,none⟩) 1 1) [R0] [x0] (w3.alloc (.cells #[x0.1,x0.2.1] 216)) from
  ⟨OA,by simpa using LA,by simpa using hc5,Nat.zero_le _,fun R hR=>by obtain rfl:=List.mem_singleton.1 hR;exact Ug,OA.hp.refl⟩)
 replace hO:=Lib.hid hO;replace hL:=Lib.hid hL;have Re:=Lib.hid C5.ol;have XM:=Lib.hid C5.ll;replace C5:=Lib.hid C5;replace MP:=Lib.hid MP;replace hnew:=Lib.hid hnew;replace Ug:=Lib.hid Ug;replace OA:=Lib.hid OA;clear LA LV hL3 t3 t4 hb3 y0' y1' Sw hsh hb1;go_wp2_with fail;obtain ⟨w4,hw4⟩:∃ w4,w4=w3.alloc (.cells #[x0.1,x0.2.1] 216):=⟨_,rfl⟩
 obtain ⟨gN,hgN⟩:∃ g,g=w3.heap.size:=⟨_,rfl⟩
 rw [← hw4,← hgN] at tot Jw Un ⊢;have tr:B≤w4.heap.size:=by rw [hw4];simp;omega
 clear hw4 hgN OA z0 z1 hnew C5 MP;obtain ⟨m4,hm4⟩:∃ m4,m4=az Ae 6 7 8 (.slice (some ⟨gN,0,none⟩) 1 1) [R0] [x0]:=⟨_,rfl⟩
 have XB:Hid (FS B m4 w4 X 0 A5 c5 (.slice (some ⟨gN,0,none⟩) 1 1) [R0] [x0] w4):=by rw [hm4];exact Un
 rw [← hm4] at tot Jw;clear hm4 Un;obtain ⟨M,hM⟩:∃ M,M=1000000000:=⟨_,rfl⟩
 have ada:M≤1000000000:=by omega
 have hX4:X.length≤400000000:=by have:=hnn.out;omega
 have hstart:Hid (Il.mP (Il.pL runs) (fun r=>(Em.get runs r).ch) 0 ((rs.drop 1).map Il.Rw.full) (X.drop 0,stk [R0])=([],[T]))∧Il.gD [R0]+2*(X.length-0)+2*Il.gD (rs.drop 1)+I6 (runs.drop 0)≤M:=by
  obtain ⟨R,Rs,e1,e2⟩:=hT.out;have e3:R=R0:=by have:=We.out;rw [e1] at this;simpa using this
  subst e3;have e4:Il.gD rs=R.wt+Il.gD Rs:=by rw [e1,Il.fV]
  have e5:Il.gD [R]=R.wt:=by simp [Il.gD]
  refine ⟨Lib.hid (by rw [e1];exact e2),?_⟩;rw [e1,List.drop_one,List.tail_cons,List.drop_zero,e5];have:=hnn.out;omega
 obtain ⟨Mg,Tp⟩:=hstart;replace hM:=Lib.hid hM;replace hX:=Lib.hid hX;replace PT:=Lib.hid PT
 go_loopw [5,8,31] (fun a b u wr=>∃ (i k:Nat) (A:Option Addr) (c:Nat) (v:Value) (ns:List Il.Rw) (V':List V3),a=.slice A (X.length-k) c∧b=v∧u=.int .i64 (i:Int)∧i≤n∧Hid (FS B m4 w4 X k A c v ns V' wr)∧Hid (Il.mP (Il.pL runs) (fun r=>(Em.get runs r).ch) i ((rs.drop (i+1)).map Il.Rw.full) (X.drop k,stk ns)=([],[T]))∧Hid (ns.length+k=1+X.countP fun x=>decide (x.1<i))∧Hid (∀ x∈X.take k,x.2.1≤i)∧Il.gD ns+2*(X.length-k)+2*Il.gD (rs.drop (i+1))+I6 (runs.drop i)≤M∧B≤wr.heap.size) (fun _ _ u _=>n-(intOf u).toNat)
 case atStart=>exact ⟨0,0,A5,c5,.slice (some ⟨gN,0,none⟩) 1 1,[R0],[x0],rfl,rfl,rfl,by omega,XB,Mg,Lib.hid (by simp),Lib.hid (by simp),Tp,tr⟩
 case round =>
  clear XB Mg Tp;obtain ⟨i,k,A,c,v,ns,V',rfl,rfl,rfl,hi,hF,xb,mq,hle,ZU,ug⟩:=hrel
  by_cases hlt:i<n
  ·have Kn:i<runs.length:=by rw [← hnn.out];exact hlt
   have Ur:=Jw.out.turn hF.out.tu;obtain ⟨bR,oR,rfl,hqR,UN⟩:=Ur.rn.2 (by omega);have hat:=fun j (hj:j<4)=>gW (f:=jT) (m:=4) (fun _=>rfl) runs i j Kn hj;have XF:Em.get runs i=runs[i]:=Em.get_at Kn;have VF:=hch.out _ (List.getElem_mem Kn);have hdr:runs.drop i=runs[i]::runs.drop (i+1):=List.drop_eq_getElem_cons Kn;generalize runs[i]=r at hat XF VF hdr;obtain ⟨ch,rn,ro,rc⟩:=r;simp only at VF;have x0c:=UN _ _ (hat 0 (by omega));have x1c:=UN _ _ (hat 1 (by omega));have x2c:=UN _ _ (hat 2 (by omega));have x3c:=UN _ _ (hat 3 (by omega));simp only [← Nat.add_assoc,Nat.add_zero] at x0c x1c x2c x3c;have hbr:bR<wr.heap.size:=hqR.2.1;have adG:I6 (runs.drop i)=rn.toNat+I6 (runs.drop (i+1)):=by rw [hdr];rfl
   have AX:=Lib.hid (hF.out.ext (w':=wr.alloc (.cells #[.int .u8 (ch.toNat:Int),.int .i64 rn,.bool ro,.bool rc] 240)) ug (aa wr _));have rq:=Lib.hid (Hq.new (w':=wr.alloc (.cells #[.int .u8 (ch.toNat:Int),.int .i64 rn,.bool ro,.bool rc] 240)) hF.out.rs.hp ug (b:=wr.heap.size) (Nat.le_refl _) (by simp));have hbc:Hid ((wr.alloc (.cells #[.int .u8 (ch.toNat:Int),.int .i64 rn,.bool ro,.bool rc] 240)).heap[wr.heap.size]? = some (.cells #[.int .u8 (ch.toNat:Int),.int .i64 rn,.bool ro,.bool rc] 240)):=Lib.hid (heap_alloc_new wr _);have Zn:B≤(wr.alloc (.cells #[.int .u8 (ch.toNat:Int),.int .i64 rn,.bool ro,.bool rc] 240)).heap.size:=by simp;omega
   have Su:rs.length=runs.length+1:=hlr.out;have hi1:i+1<rs.length:=by omega
   have NC:rs.drop (i+1)=rs[i+1]::rs.drop (i+2):=List.drop_eq_getElem_cons hi1;obtain ⟨Rf,ry⟩:∃ Rf,Rf=rs[i+1]:=⟨_,rfl⟩
   rw [← ry] at NC;have hwd:Il.gD (rs.drop (i+1))=Rf.wt+Il.gD (rs.drop (i+2)):=by rw [NC,Il.fV]
   have Vl:Hid (after (Il.pL runs) (fun r=>(Em.get runs r).ch) i Rf.full ((rs.drop (i+2)).map Il.Rw.full) (X.drop k,stk ns)=([],[T])):=Lib.hid (by
    have:=xb.out;rw [NC,List.map_cons] at this;exact this)
   replace hdr:=Lib.hid hdr;replace hat:=Lib.hid hat;replace Ur:=Lib.hid Ur;replace XF:=Lib.hid XF;replace NC:=Lib.hid NC;replace ry:=Lib.hid ry;replace Su:=Lib.hid Su;clear xb UN hqR hF;go_wp2_with fail;obtain ⟨wa,xD⟩:∃ wa,wa=wr.alloc (.cells #[.int .u8 (ch.toNat:Int),.int .i64 rn,.bool ro,.bool rc] 240):=⟨_,rfl⟩
   obtain ⟨bx,X7⟩:∃ bx,bx=wr.heap.size:=⟨_,rfl⟩
   rw [← xD] at AX rq hbc Zn ⊢;rw [← X7] at rq hbc ⊢;clear xD X7 x0c x1c x2c x3c;have hFt:=AX.out.tu;refine Gf B (az Ae 6 7 8 u8 ns V') wa X i (X.countP fun x=>decide (x.1<i)) (M-(2*Il.gD (rs.drop (i+1))+I6 (runs.drop i))) (Il.pL runs) (fun r=>(Em.get runs r).ch) Rf.full ((rs.drop (i+2)).map Il.Rw.full) ([],[T]) C3.out rfl (by omega) hX4 k A c u8 ns V' wa ⟨AX.out.rs,AX.out.pr,AX.out.cap,AX.out.kl,AX.out.ok,AX.out.rs.hp.refl⟩ Vl.out mq.out hle.out (by omega) Zn _ _ _ _ _ _ _ _ _ _ _ _ _ _ _ _ _ _ _ _ _ _ _ _ _ _ _ _ _ _ _ _ _ _ _ _ _ _ _ _ _ _ _ _ _ _ _ _ _ _ _ _ _ _ _ _ _ _ _ _ _ _ _ _ _ _ _ _ _ _ _ _ _ _ _ _ _ _ _ _ _ _ _ _ _ ?_;intro k2 A2 c2 v2 ns2 V2 u36 u37 u38 u39 u40 u41 u42 u43 u44 u45 u46 u47 u48 u49 u50 u51 u52 u53 u54 u55 w5 ⟨TJ,hm5,hc5,Z1,hp5⟩ hstop;have YA:=TJ.out.tu;have Wq:FS B m4 w4 X k2 A2 c2 v2 ns2 V2 w5:=⟨TJ.out.rs,TJ.out.pr,TJ.out.cap,TJ.out.kl,TJ.out.ok,hFt.trans YA⟩
   have UU:=YA.fre _ rq.out;have Ze:=Lib.hid (UU.1.trans hbc.out);have Zy:=Lib.hid UU.2;have ES:=Nat.le_trans Zn YA.bel.size;have RH:=Jw.out.turn Wq.tu;obtain ⟨b2,o2,TZ,N6,hc2⟩:=RH.l.2 (by omega);injection TZ with TZ;injection TZ with e1 e2;subst e1 e2;obtain ⟨b3,o3,F7,XV,hc3⟩:=RH.o.2 (by omega);injection F7 with F7;injection F7 with e1 e2;subst e1 e2;have Zt:=hL.out i (by have:=XM.out;omega);have Xe:=hO.out i (by have:=Re.out;omega);rw [PK.out] at Zt;have xl:=hc2 i (.int .i64 ((Il.pL runs i:Nat):Int)) (by
    rw [aB,List.getElem?_map,List.getElem?_eq_getElem (by have:=XM.out;omega),Zt];rfl)
   have xo:=hc3 i (.int .i64 ((Il.opn X i:Nat):Int)) (by
    rw [aB,List.getElem?_map,List.getElem?_eq_getElem (by have:=Re.out;omega),Xe];rfl)
   simp only [Nat.zero_add] at xl xo;have L4:g1<w5.heap.size:=XV.2.1;have Y0:g2<w5.heap.size:=N6.2.1;have hlf:Il.pL runs i≤rn.toNat:=by
    unfold Il.pL Il.cnt;rw [XF.out];simp only;omega
   obtain ⟨lf,QV⟩:∃ lf,lf=Il.pL runs i:=⟨_,rfl⟩
   rw [← QV] at xl hlf;obtain ⟨op,FZ⟩:∃ op,op=Il.opn X i:=⟨_,rfl⟩
   rw [← FZ] at xo;replace QV:=Lib.hid QV;replace FZ:=Lib.hid FZ;have La:ns2≠[]:=by
    intro e;have h1:=hm5.out;unfold after Il.ow at h1;rw [hstop,e] at h1;simp only [stk,List.map_nil,List.reverse_nil] at h1;have:=hc5;rw [e] at this;simp only [List.length_nil] at this;have hcl:X.countP (fun x=>decide (x.1<i))+1≤k2:=by omega
    have hkl:=TJ.out.kl;have hcc:(X.countP fun x=>decide (x.1<i))≥(X.take k2).countP (fun x=>decide (x.1<i)):=by
     conv=>lhs;rw [← List.take_append_drop k2 X,List.countP_append]
     omega
    have hall:(X.take k2).countP (fun x=>decide (x.1<i))=(X.take k2).length:=by
     rw [List.countP_eq_length];intro x hx;have h1:=Z1.out x hx;have h2:=(C3.out x (List.mem_of_mem_take hx)).1;simp;omega
    rw [List.length_take] at hall;omega
   clear hc2 hc3 N6 XV TJ AX rq hbc UU YA hFt Zt Xe;replace RH:=Lib.hid RH;replace Wq:=Lib.hid Wq;replace La:=Lib.hid La;replace hstop:=Lib.hid hstop;replace hc5:=Lib.hid hc5;obtain ⟨gN2,cN2,rfl,_,_,_⟩:=Wq.out.rs.slice (List.length_pos_iff.2 La.out);go_wp2_with fail;have hCX:(X.countP fun x=>decide (x.1<i))≤X.length:=List.countP_le_length;refine Nt B m4 w4 X lf bx ch rn ro rc VF.1 (by omega) k2 A2 c2 _ ns2 V2 w5 Wq.out La.out (by have:=hc5.out;omega) (by omega) ES Zy.out Ze.out _ _ _ _ _ _ _ _ _ _ _ _ _ _ _ _ _ _ _ _ _ _ _ _ _ _ _ _ _ _ _ _ _ _ _ _ _ _ _ _ _ _ _ _ _ _ _ _ _ _ _ _ _ _ _ _ _ _ _ _ _ _ _ _ _ _ _ _ _ _ _ _ _ _ _ _ _ _ _ _ _ _ _ _ (fun _ _ d _ _ h=>by cases d<;>exact h) ?_;intro V3 q60 q61 q62 q63 q64 q65 q66 q67 q68 w6 Po VA;have UX:=Jw.out.turn Po.tu;obtain ⟨b3,o3,F7,XV,hc3⟩:=UX.o.2 (by omega);injection F7 with F7;injection F7 with e1 e2;subst e1 e2;have Xe:=hO.out i (by have:=Re.out;omega);have xo6:=hc3 i (.int .i64 ((op:Nat):Int)) (by
    rw [aB,List.getElem?_map,List.getElem?_eq_getElem (by have:=Re.out;omega),Xe,← FZ.out];rfl)
   simp only [Nat.zero_add] at xo6;have acQ:g1<w6.heap.size:=XV.2.1;have acN:op≤X.length:=by rw [FZ.out];unfold Il.opn;exact List.countP_le_length
   obtain ⟨ns3,GK⟩:∃ ns3,ns3=Il.aX (fun R=>R.say (List.replicate lf ch)) ns2:=⟨_,rfl⟩
   rw [← GK] at Po;have hl3:ns3.length=ns2.length:=by rw [GK,Il.kr]
   have Wf:ns3≠[]:=by rw [GK];exact Il.EK La.out
   have hw3:Il.gD ns3≤Il.gD ns2+lf:=by
    rw [GK];exact Il.iX (fun R=>by rw [Il.Rw.rS,List.length_replicate];exact Nat.le_refl _) ns2
   have Oc:stk ns3=Il.dD (stk ns2) (Il.word (List.replicate lf ch)):=by rw [GK];exact RX La.out Wq.out.ok _
   have harr:=Po.rs.arr;rw [hl3] at harr;have hlb:ns2.length≤1000000000:=by have:=hc5.out;omega
   have hgrow:=Lib.hid (fun (w':World) (v':Value) (hg:w6.grownBy w' (Value.slice (some ⟨gN2,0,none⟩) ns2.length cN2).ownBlock) (ho:w'.ownsRow B 216 2 v' (ns2.length+op) (aS V3++aS (List.replicate op (.slice none 0 0,.slice none 0 0,[])))) (hat:At w6.heap.size (.slice (some ⟨gN2,0,none⟩) ns2.length cN2) v')=>Po.rs.grow (w':=w') (v':=v') (j:=op) VA hg (by rw [hl3];exact ho) hat);replace Po:=Lib.hid Po;replace Oc:=Lib.hid Oc;replace GK:=Lib.hid GK;replace hl3:=Lib.hid hl3;replace Wf:=Lib.hid Wf;replace UX:=Lib.hid UX;clear hc3 XV Xe xl xo L4 Y0;go_upto_region 16 with fail
   go_upto_region 17 with (at_builtin;refine sA rfl (.tmp 69) (.tmp 73) rfl GV (kn:=.i64) Tryz.underlying3 (z:=.agg #[.slice none 0 0,.slice none 0 0]) (by kernel_rfl) Pd rfl harr rfl (by omega) (by omega) VA ?_;intro v7 w7 Ic qi mB)
   rw [JR] at Ic;obtain ⟨O6,t8⟩:=hgrow.out w7 v7 qi.out Ic mB.out;obtain ⟨ns4,I9⟩:∃ ns4,ns4=ns3++List.replicate op Il.Rw.nil:=⟨_,rfl⟩
   rw [← I9] at O6 t8;have Ng:ns4≠[]:=by rw [I9];simp [Wf.out]
   have hl4:ns4.length=ns2.length+op:=by rw [I9,List.length_append,List.length_replicate,hl3.out]
   have VG:∀ R∈ns4,R.ok:=fun R hR=>by
    rw [I9] at hR;rcases List.mem_append.1 hR with h | h
    ·exact Po.out.ok R h
    ·rw [(List.mem_replicate.1 h).2];exact Il.Rw.E5
   have hw4:Il.gD ns4=Il.gD ns3:=by
    rw [I9,Il.eI];have:∀ j,Il.gD (List.replicate j Il.Rw.nil)=0:=fun j=>by
     induction j with
     | zero=>rfl
     | succ j ih=>rw [List.replicate_succ,Il.fV,ih];rfl
    rw [this];omega
   obtain ⟨V4,hV4⟩:∃ V4,V4=V3++List.replicate op (.slice none 0 0,.slice none 0 0,[]):=⟨_,rfl⟩
   rw [← hV4] at O6 t8;have Zq:FS B m4 w4 X k2 A2 c2 v7 ns4 V4 w7:=⟨O6,t8.gA Po.out.pr,Po.out.cap,Po.out.kl,VG,Po.out.tu.trans t8⟩
   have Tj:=Nat.le_trans VA t8.bel.size;obtain ⟨gN7,cN7,rfl,_,_,_⟩:=O6.slice (List.length_pos_iff.2 Ng);obtain ⟨R,hR1,hR2⟩:=kj Ng;have Fm:=Il.lQ (List.mem_of_getElem? hR1);have Vb:=Jw.out.turn Zq.tu;have Yc:i+1<V.length:=by rw [YN.out,Su.out];omega
   have XK:i+1<rs.length:=by rw [Su.out];omega
   obtain ⟨AJ,cJ,PJ,dJ,ej1,ej2,ej3,ej4,ej5⟩:=Vb.rows (i+1) (by omega) XK Yc;rw [← ry.out] at ej1 ej2 ej3 ej4 ej5;obtain ⟨bF,oF,Y5,hqF,Vn⟩:=Vb.flat.2 (by omega);injection Y5 with Y5;injection Y5 with e1 e2;subst e1 e2;have hv3:=OS Yc;rw [ej1,ej2] at hv3;have xf0:=Vn _ _ hv3.1;have xf1:=Vn _ _ hv3.2;simp only [Nat.zero_add] at xf0 xf1;obtain ⟨cssJ,Xo⟩:∃ cs,cs=V[i+1].2.2:=⟨_,rfl⟩
   rw [← Xo] at ej3 ej4;have VI:Rf.ok:=by rw [ry.out];exact hok.out _ (List.getElem_mem XK)
   have hwf:Rf.wt≤1000000000:=by omega
   have hwR:R.wt≤1000000000:=by omega
   obtain ⟨x1,y1,z1,e1,q1,i1⟩:=O6.look ⟨by decide,by decide,by decide⟩ hR1;have hc1:=O6.cn (i:=ns4.length-1) (g:=gN7) (cp:=cN7) rfl (by have:=List.length_pos_iff.2 Ng;omega);have hS:(fun u:World=>u.cell? ⟨gF,(i+1)*2,none⟩=some (.slice AJ Rf.l.length cJ)∧u.cell? ⟨gF,(i+1)*2+1,none⟩=some (.slice PJ Rf.p.length dJ)) w7.drew:=⟨xf0,xf1⟩
   have nt:Hid (Calls Tryz.prog 206 #[.pointer (some ⟨gN7,(ns4.length-1)*2,none⟩),.agg #[.slice AJ Rf.l.length cJ,.slice PJ Rf.p.length dJ]] w7.drew fun e w'=>e=.returned (.tuple #[])∧∃ V9,FS B m4 w4 X k2 A2 c2 (.slice (some ⟨gN7,0,none⟩) ns4.length cN7) (Il.aX (fun R=>R.join Rf) ns4) V9 w'∧(fun u:World=>u.cell? ⟨gF,(i+1)*2,none⟩=some (.slice AJ Rf.l.length cJ)∧u.cell? ⟨gF,(i+1)*2+1,none⟩=some (.slice PJ Rf.p.length dJ)) w'∧B≤w'.heap.size):=Lib.hid (by
    have hq:Hq w7.drew B (aN (az Ae 6 7 8 (.slice (some ⟨gN7,0,none⟩) ns4.length cN7) ns4 V4) (mu 6 7 8 (ns4.length-1)) (BT (.slice (some ⟨gN7,0,none⟩) ns4.length cN7) ns4.length V4 (ns4.length-1)) R x1 y1 z1):=q1.mM.hp;refine (KS (eN ⟨by decide,by decide,by decide⟩ (ns4.length-1)) hc1 hq (q1.mM.kids i1) Tj hwR Rf VI hwf AJ cJ cssJ PJ dJ (by rw [e1];exact O6.hp.mM.gA ej3) (by rw [e1];exact O6.hp.mM.kids ej4) (by rw [e1];exact O6.hp.mM.gA ej5)).mono ?_;rintro e w' ⟨rfl,vi',vp',css',t,hI'⟩;obtain ⟨hR9,YL⟩:=O6.turned (w':=w') ⟨by decide,by decide,by decide⟩ hR1 e1 (q1.mM.trans t) hI';rw [← hR2 (fun R=>R.join Rf)] at hR9 YL;have LJ:=YL.fre gF hqF;exact ⟨rfl,_,Zq.say (fun R hR=>(Il.Rw.CI hR VI).1) hR9 YL,⟨fK LJ.1 _ xf0,fK LJ.1 _ xf1⟩,Nat.le_trans Tj YL.bel.size⟩)
   have b9:=Lib.hid (fun w=>gT gN7 ns4.length cN7 (List.length_pos_iff.2 Ng) (by have:=hc5.out;omega) w);have VO:Hid (Il.mP (Il.pL runs) (fun r=>(Em.get runs r).ch) (i+1) ((rs.drop (i+1+1)).map Il.Rw.full) (X.drop k2,stk (Il.aX (fun R=>R.join Rf) ns4))=([],[T])):=Lib.hid (by
    rw [NT Ng VG VI,I9,Mk,Oc.out];have h1:=hm5.out;unfold after Il.ow at h1;simp only [hstop.out] at h1;rw [Pf (fun x hx=>(C3.out x hx).1) Z1.out,← FZ.out,← QV.out,XF.out] at h1;exact h1)
   have WQ:Hid ((Il.aX (fun R=>R.join Rf) ns4).length+k2=1+X.countP fun x=>decide (x.1<i+1)):=Lib.hid (by
    rw [Il.kr,hl4,Fk,← FZ.out];have:=hc5.out;omega)
   have Pj:Hid (∀ x∈X.take k2,x.2.1≤i+1):=Lib.hid (fun x hx=>Nat.le_succ_of_le (Z1.out x hx));have hwj:Il.gD (Il.aX (fun R=>R.join Rf) ns4)≤Il.gD ns4+2*Rf.wt:=Il.iX (fun R=>Il.Rw.RZ R Rf) ns4;have WG:Il.gD (Il.aX (fun R=>R.join Rf) ns4)+2*(X.length-k2)+2*Il.gD (rs.drop (i+1+1))+I6 (runs.drop (i+1))≤M:=by
    show _+_+2*Il.gD (rs.drop (i+2))+_≤M;omega
   have acK:gF<w7.heap.size:=hqF.2.1;obtain ⟨nm,hnm⟩:∃ nm,nm=(ns4.length-1)*2:=⟨_,rfl⟩
   rw [← hnm] at b9 nt;obtain ⟨n4,hn4⟩:∃ n4,n4=ns4.length:=⟨_,rfl⟩
   rw [← hn4] at b9 nt ⊢;have hif:((i:Int)+1)<(nf:Int):=by omega
   have adt:(0:Int)≤(i:Int)+1:=by omega
   have hwi:(((i:Int)+1).toNat)=i+1:=by omega
   have ab7:IntKind.i64.wrap ((i:Int)+1)=(i:Int)+1:=by rw [IntKind.wrap_i64];omega
   have abS:(i:Int)+1<(n:Int)+1:=by omega
   clear hnm hn4 O6 t8 Zq Vb ej1 ej2 ej3 ej4 ej5 Vn hv3 xf0 xf1 q1 i1 hc1 e1 hR1 hR2 Fm VG hqF;go_upto_region 17 with fail
   refine aE (.rd 0 (.rd 2 (.rd 3 (.rd 4 (.rd 5 (.rd 6 (.mk 1 (.mk 7 .fin)))))))) (fun u:World=>u.cell? ⟨gF,(i+1)*2,none⟩=some (.slice AJ Rf.l.length cJ)∧u.cell? ⟨gF,(i+1)*2+1,none⟩=some (.slice PJ Rf.p.length dJ)) hS (by kernel_rfl) (by kernel_rfl) (by kernel_rfl) (fun _ _ d _ _ h=>by cases d<;>exact h) ?_
   iterate 5 (first | refine an rfl ?_ | (refine ay rfl ?_;intro K hK;go_simp;refine hK _ _ _ ?_;clear hK K))
   refine aH (.agg #[.slice AJ Rf.l.length cJ,.slice PJ Rf.p.length dJ]) rfl rfl hS (fun u hu=>by obtain ⟨h1,h2⟩:=hu;go_simp) ?_;refine aC rfl ?_;intro K hK;go_simp;refine (b9.out _).mono ?_;rintro e w8 ⟨rfl,rfl⟩;refine ⟨_,hS,fun _ h=>h,hK _ _ _ ?_⟩;clear hK K;refine aC rfl ?_;intro K hK;go_simp;refine nt.out.mono ?_;rintro e w9 ⟨rfl,V9,Zr,hS9,R3⟩;refine ⟨_,hS9,fun _ h=>h,hK _ _ _ ?_⟩;clear hK K hS hS9 nt b9;replace Zr:=Lib.hid Zr;refine aM ?_;go_wp2_with fail
   go_roundw
   case rel=>exact ⟨i+1,k2,A2,c2,_,_,V9,rfl,rfl,by go_num,by omega,Zr,VO,WQ,Pj,WG,R3⟩
   case measure=>simp [intOf];omega
  ·have hin:i=n:=by omega
   subst hin;have hend:=xb.out;rw [List.drop_eq_nil_of_le (by rw [hlr.out,← hnn.out];omega)] at hend;have hst:stk ns=[T]:=congrArg Prod.snd hend;have hl1:ns.length=1:=by rw [← So,hst];rfl
   obtain ⟨R,rfl⟩:∃ R,ns=[R]:=List.length_eq_one_iff.1 hl1;have ZJ:R.full=T:=by simpa [stk] using hst
   obtain ⟨gN2,cN2,rfl,_,_,_⟩:=hF.out.rs.slice (by simp);obtain ⟨x1,y1,z1,e1,q1,i1⟩:=hF.out.rs.look (i:=0) (R:=R) ⟨by decide,by decide,by decide⟩ rfl;have hc1:=hF.out.rs.cn (i:=0) (g:=gN2) (cp:=cN2) rfl (by simp);have Fm:R.wt≤Il.gD [R]:=by simp [Il.gD]
   have hRb:R.p.length≤1000000000∧R.l.length≤1000000000:=by unfold Il.Rw.wt at Fm;omega
   have hall:=Lib.hid (j9 (eN ⟨by decide,by decide,by decide⟩ 0) hc1 q1 i1 ug (by omega) (by omega));have b9:=fun w=>gT gN2 1 cN2 (by omega) (by omega) w;have htu:=Lib.hid hF.out.tu.bel;have hbt:=Lib.hid tot.out.bel;clear q1 i1 e1 hc1 hF xb hend hst Fm mq hle ZU;replace ZJ:=Lib.hid ZJ;simp only [List.length_singleton] at *;go_wp2_with fail;refine (b9 _).mono ?_;rintro e w8 ⟨rfl,rfl⟩;go_wp2_with fail;refine hall.out.mono ?_;rintro e w9 ⟨v9,rfl,vp9,css9,t9,W4⟩;have hown:w9.ownsRow B 35 4 v9 R.full.length css9.flatten:=t9.hp.holds _ _ (gS (eN ⟨by decide,by decide,by decide⟩ 0));have cO:=gP (w':=w9) (Q':=fun b=>B≤b∧b<w9.heap.size) (fun _ _=>rfl) (fun b hb=>⟨hb.1,hb.2.1⟩) W4;have hbel:=Lib.hid (hbt.out.trans (htu.out.trans t9.bel));replace hown:=Lib.hid hown;replace cO:=Lib.hid cO;rw [ZJ.out] at hown cO;clear t9 W4 hall;go_wp2_with fail;go_ret;exact ⟨_,rfl,css9,hown.out,cO.out,hbel.out⟩
end Go.Proofs.YtddkjkockbcamaaGreatDoor
namespace Go.Proofs.YtddkjkockbcamaaGreatDoor
open Go.RowKit
theorem Fz {m:Ky→Option Pa}{vF:Value}{R:Il.Rw}{V:List V3}{w:World}{B:Nat}{AR:Option Addr}{cR:Nat}(h:RS w B m 3 4 5 vF [R] V) (hB:B≤w.heap.size) (hw:R.wt≤1000000000) :
  Calls Tryz.prog 174 #[vF,.slice AR 0 cR] w fun e w'=>∃ v,e=.returned v∧∃ css,w'.ownsRow B 35 4 v R.full.length css.flatten∧gB w' (fun b=>B≤b∧b<w'.heap.size) R.full css∧Below B w w':=by
 obtain ⟨g,cp,rfl,_,_,_⟩:=h.slice (by simp);obtain ⟨x1,y1,z1,e1,q1,i1⟩:=h.look (i:=0) (R:=R) ⟨by decide,by decide,by decide⟩ rfl;have hc1:=h.cn (i:=0) (g:=g) (cp:=cp) rfl (by simp);have hRb:R.p.length≤1000000000∧R.l.length≤1000000000:=by unfold Il.Rw.wt at hw;omega
 have hall:=Lib.hid (j9 (eN ⟨by decide,by decide,by decide⟩ 0) hc1 q1 i1 hB (by omega) (by omega));clear h e1 q1 i1 hc1 hRb;simp only [List.length_singleton];go_enter Tryz.func174,Tryz.ntmps174;go_wp2_with fail;refine hall.out.mono ?_;rintro e w9 ⟨v9,rfl,vp9,css9,t9,W4⟩;have hown:w9.ownsRow B 35 4 v9 R.full.length css9.flatten:=t9.hp.holds _ _ (gS (eN ⟨by decide,by decide,by decide⟩ 0));have cO:=gP (w':=w9) (Q':=fun b=>B≤b∧b<w9.heap.size) (fun _ _=>rfl) (fun b hb=>⟨hb.1,hb.2.1⟩) W4;have hbel:=Lib.hid t9.bel;replace hown:=Lib.hid hown;replace cO:=Lib.hid cO;clear t9 W4 hall;go_wp2_with fail;go_ret;exact ⟨_,rfl,css9,hown.out,cO.out,hbel.out⟩
theorem J8 {m:Ky→Option Pa}{vF:Value}{rs:List Il.Rw}{V:List V3}{w:World}{B:Nat}{AR:Option Addr}{cR i:Nat}(st:Il.Sc) (h:RS w B m 3 4 5 vF rs V) (hB:B≤w.heap.size) (tq:m (1,0)=some (.row 240 4 (.slice AR st.runs.length cR) st.runs.length (aF st.runs)))
  (hrel:Il.Rel rs st) (hsc:Il.fh st i) (hi:i≤4000000) (hch:∀ r∈st.runs,r.ch.toNat<128) (hwt:Il.gD rs≤64000000) (hct:I6 st.runs≤4000000) :
  Calls Tryz.prog 174 #[vF,.slice AR st.runs.length cR] w fun e w'=>∃ v,e=.returned v∧∃ css,w'.ownsRow B 35 4 v (Il.dY st.l st.runs).length css.flatten∧gB w' (fun b=>B≤b∧b<w'.heap.size) (Il.dY st.l st.runs) css∧Below B w w':=by
 have hfr:=Il.JP hrel hsc
 by_cases h0:st.runs=[]
 ·obtain ⟨R,Rs,rfl,e2⟩:=hfr
  have hl:=hrel.len;rw [h0] at hl e2;have hRs:Rs=[]:=by
   cases Rs with
   | nil=>rfl
   | cons a b=>simp at hl
  subst hRs;have e3:R.full=Il.dY st.l st.runs:=by
   have h2:=congrArg Prod.snd e2;rw [h0];have e4:[R.full]=[Il.dY st.l []]:=h2;injection e4
  rw [← e3,h0];exact Fz h hB (Nat.le_trans (Il.lQ (List.mem_singleton.2 rfl)) (by omega))
 ·have hp:1≤st.runs.length:=List.length_pos_iff.2 h0
  exact He st.runs _ h hB tq hrel.len (Nat.le_trans hsc.rlen hi) hp hrel.ok (fun r hr=>⟨hch r hr,hsc.pos r hr⟩) hwt hct hfr
end Go.Proofs.YtddkjkockbcamaaGreatDoor
namespace Go.Proofs.YtddkjkockbcamaaGreatDoor
open Go.RowKit Go.Maps
def BS (s:List UInt8) (link:Bool) (gm:Nat) (vr vF:Value):Array Value:=#[.string (bs s),.bool link,.string (bs s),.map (some gm),vr,vF]
def pV (bR gm nm:Nat) (s:List UInt8) (link:Bool) (D:DataW Unit) (vr vF:Value) (runs:List Em.R):Ky→Option Pa:=fun q =>
 if q=(0,0) then some (.blk bR (BS s link gm vr vF) 221)
 else if q=(1,0) then some (.row 240 4 vr runs.length (aF runs))
 else if q=(2,0) then some (.map gm nm D) else none
def closing (s:List UInt8) (i:Nat):Nat:=(Lk.close s (i:Int)).getD s.length
def jt (s:List UInt8) (D:DataW Unit):Prop:=∀ i:Nat,Maps.has D (.int .i64 (i:Int))=true→(i<s.length∧s.getD i 0=91)∧D.atKey (.int .i64 (i:Int)) (.lit (.int .i64 0))=.lit (.int .i64 (closing s i:Int))
structure RD (w:World) (B bR:Nat) (s:List UInt8) (link:Bool) (st:Il.Sc) (gm nm:Nat) (D:DataW Unit) (vr vF:Value) (rs:List Il.Rw) (V:List V3):Prop where
 rw:RS w B (pV bR gm nm s link D vr vF st.runs) 3 4 5 vF rs V
 rel:Il.Rel rs st
 ends:jt s D
def bJ (w:World) (B bR:Nat) (s:List UInt8) (link:Bool) (st:Il.Sc) (i mk:Nat):Prop :=
 B≤w.heap.size∧∃ gm nm D vr vF rs V,RD w B bR s link st gm nm D vr vF rs V∧Il.gD rs≤16*i∧nm≤mk
section
variable {w w':World}{B bR:Nat}{s:List UInt8}{link:Bool}{st:Il.Sc}{gm nm:Nat}{D:DataW Unit}{vr vF:Value}{rs:List Il.Rw}{V:List V3}
theorem RD.blk (h:RD w B bR s link st gm nm D vr vF rs V):w.heap[bR]? = some (.cells (BS s link gm vr vF) 221 (0,0))∧B≤bR∧bR<w.heap.size:=by
 have hk:az (pV bR gm nm s link D vr vF st.runs) 3 4 5 vF rs V (0,0)=some (.blk bR (BS s link gm vr vF) 221):=by
  unfold az pV;rw [if_neg (by simp),if_neg (by simp),if_neg (by simp),if_pos rfl]
 have h1:=h.rw.hp.holds _ _ hk;exact ⟨h1.2,h1.1,(Array.getElem?_eq_some_iff.1 h1.2).1⟩
theorem RD.cells (h:RD w B bR s link st gm nm D vr vF rs V):w.cell? ⟨bR,0,none⟩=some (.string (bs s))∧w.cell? ⟨bR,1,none⟩=some (.bool link)∧w.cell? ⟨bR,2,none⟩=some (.string (bs s))∧w.cell? ⟨bR,3,none⟩=some (.map (some gm))∧w.cell? ⟨bR,4,none⟩=some vr∧w.cell? ⟨bR,5,none⟩=some vF∧(∀ j,w.frozen? ⟨bR,j,none⟩=false):=by
 have hb:=h.blk.1;exact ⟨ah hb 0,ah hb 1,ah hb 2,ah hb 3,ah hb 4,ah hb 5,aW hb⟩
theorem RD.ext (h:RD w B bR s link st gm nm D vr vF rs V) (hB:B≤w.heap.size) (hb:Below w.heap.size w w'):RD w' B bR s link st gm nm D vr vF rs V:=⟨h.rw.ext hB hb,h.rel,h.ends⟩
theorem RD.ne (h:RD w B bR s link st gm nm D vr vF rs V):rs≠[]:=by
 have:=h.rel.len;intro e;rw [e] at this;simp at this
theorem RD.last (h:RD w B bR s link st gm nm D vr vF rs V) {R:Il.Rw}(hR:rs[rs.length-1]? = some R) (f:Il.Rw→Il.Rw) {st':Il.Sc}(hrel:Il.Rel (Il.aX f rs) st') (tq:st'.runs=st.runs) (hf:Il.aX f rs=rs.set (rs.length-1) (f R))
  {x0 y0 x y:Value}{z0 z:List (List Value)}(he:aN (az (pV bR gm nm s link D vr vF st.runs) 3 4 5 vF rs V) (mu 3 4 5 (rs.length-1)) (BT vF rs.length V (rs.length-1)) R x0 y0 z0=az (pV bR gm nm s link D vr vF st.runs) 3 4 5 vF rs V)
  (t:bV B (aN (az (pV bR gm nm s link D vr vF st.runs) 3 4 5 vF rs V) (mu 3 4 5 (rs.length-1)) (BT vF rs.length V (rs.length-1)) R x0 y0 z0) w (aN (az (pV bR gm nm s link D vr vF st.runs) 3 4 5 vF rs V) (mu 3 4 5 (rs.length-1)) (BT vF rs.length V (rs.length-1)) (f R) x y z) w')
  (hI:gB w' (Fr w' B (aN (az (pV bR gm nm s link D vr vF st.runs) 3 4 5 vF rs V) (mu 3 4 5 (rs.length-1)) (BT vF rs.length V (rs.length-1)) (f R) x y z)) (f R).l z):RD w' B bR s link st' gm nm D vr vF (Il.aX f rs) (V.set (rs.length-1) (x,y,z))∧Below B w w':=by
 obtain ⟨h1,h2⟩:=h.rw.turned ⟨by decide,by decide,by decide⟩ hR he t hI;rw [← hf] at h1;refine ⟨⟨?_,hrel,h.ends⟩,t.bel⟩;rw [tq];exact h1
theorem Gc (h:RD w B bR s link st gm nm D vr vF rs V) (hB:B≤w.heap.size) (r:Nat) (hr:Ru.vr r) (hw:Il.gD rs≤64000000) (hbig:rs.length≤1000000000):∃ g c,vF=.slice (some ⟨g,0,none⟩) rs.length c∧0<rs.length ∧
  Calls Tryz.prog 205 #[.pointer (some ⟨g,(rs.length-1)*2,none⟩),.int .i32 (r:Int)] w fun e w'=>e=.returned (.tuple #[])∧∃ V',RD w' B bR s link ⟨Il.eW st.l (Lib.encodeRune (r:Int)),st.runs⟩ gm nm D vr vF (Il.aX (fun R=>R.say (Lib.encodeRune (r:Int))) rs) V'∧Below B w w':=by
 have hp:=List.length_pos_iff.2 h.ne;obtain ⟨g,c,hv,hc,_,_⟩:=h.rw.slice hp;obtain ⟨R,hR1,hR2⟩:=kj h.ne;have Fm:=Il.lQ (List.mem_of_getElem? hR1);obtain ⟨x1,y1,z1,e1,q1,i1⟩:=h.rw.look ⟨by decide,by decide,by decide⟩ hR1;have hc1:=h.rw.cn (i:=rs.length-1) hv (by omega);refine ⟨g,c,hv,hp,(iO (eN ⟨by decide,by decide,by decide⟩ (rs.length-1)) hc1 q1 hB r hr (by unfold Il.Rw.wt at Fm;omega)).mono ?_⟩;rintro e w' ⟨rfl,vp',t⟩;exact ⟨rfl,_,(h.last hR1 (fun R=>R.say (Lib.encodeRune (r:Int))) (Il.Iu h.rel (Il.Pv hr)) rfl (hR2 _) e1 t (t.kids i1))⟩
end
end Go.Proofs.YtddkjkockbcamaaGreatDoor
namespace Go.Proofs.YtddkjkockbcamaaGreatDoor
open Go.RowKit Go.Maps
attribute [local go_sem] aD av aq
section
variable {w:World}{B bR:Nat}{s:List UInt8}{link:Bool}{st:Il.Sc}{i mk:Nat}
theorem bJ.lJ {w:World}(ok:Il.fh st i) (hi:i≤s.length) (hs:s.length≤4000000) {gm nm:Nat}{D:DataW Unit}{vr vF:Value}{rs:List Il.Rw}{V:List V3}(h:RD w B bR s link st gm nm D vr vF rs V):rs.length≤4000001:=by
 have h1:=h.rel.len;have h2:=ok.rlen;omega
theorem kJ (h:bJ w B bR s link st i mk) (ok:Il.fh st i) (hi:i<s.length) (hs:s.length≤4000000) :
  Calls Tryz.prog 199 #[.pointer (some ⟨bR,0,none⟩),.int .i64 (i:Int)] w fun e w'=>e=.returned (.int .i64 ((Es.next s i).2.1:Int)) ∧
   bJ w' B bR s link ⟨Il.eW st.l (Lib.encodeRune ((Es.next s i).1:Int)),st.runs⟩ (Es.next s i).2.1 mk∧Below B w w':=by
 obtain ⟨hB,gm,nm,D,vr,vF,rs,V,hR,hw,hnm⟩:=h;obtain ⟨hm1,hm2⟩:=Es.eP hi;have hl1:=bJ.lJ ok (by omega) hs hR;have hV:mj s i=.tuple #[.int .i32 ((Es.next s i).1:Int),.int .i64 ((Es.next s i).2.1:Int),.bool (Es.next s i).2.2]:=rfl;have Dk:=Es.HI s i;have hnext:=Lib.hid (oe s (i:Int) (by omega) w trivial);rw [show ((i:Int)).toNat=i from by omega,hV] at hnext;clear hV;obtain ⟨x,hx⟩:∃ x,x=(Es.next s i).1:=⟨_,rfl⟩
 obtain ⟨n,hn⟩:∃ n,n=(Es.next s i).2.1:=⟨_,rfl⟩
 obtain ⟨o,ho⟩:∃ o,o=(Es.next s i).2.2:=⟨_,rfl⟩
 rw [← hx,← hn,← ho] at hnext;rw [← hn] at hm1 hm2;rw [← hx] at Dk;rw [← hx,← hn];clear hx hn ho;obtain ⟨f0,f1,f2,f3,f4,f5,f6⟩:=hR.cells;have hp:=List.length_pos_iff.2 hR.ne;obtain ⟨g,c,rfl,_,_,_⟩:=hR.rw.slice hp;have BY:=Lib.hid (fun (w1:World) (hb:Below w.heap.size w w1)=>Gc (hR.ext hB hb) (Nat.le_trans hB hb.size) x Dk (by omega) (by omega));have hcl:=Lib.hid (fun (w1:World) (hb:Below w.heap.size w w1)=>(hR.ext hB hb).cells);have b9:=Lib.hid (fun w=>gT g rs.length c hp (by omega) w);have hwl:=Il.iX (f:=fun R=>R.say (Lib.encodeRune (x:Int))) (k:=4) (fun R=>by
  rw [Il.Rw.rS];have:=(Ru.gf [x]).2;simp [Ru.enc] at this;omega) rs
 replace hwl:=Lib.hid hwl;clear hR;go_enter Tryz.func199,Tryz.ntmps199;go_wp2_with fail;refine hnext.out.mono ?_;rintro e w1 ⟨rfl,hb1⟩;have CV:=Lib.hid hb1;obtain ⟨c0,c1,c2,c3,c4,c5,c6⟩:=hcl.out w1 hb1;obtain ⟨g',c',hv',_,EN⟩:=BY.out w1 hb1;obtain ⟨rfl,rfl⟩:g=g'∧c=c':=by injection hv' with h1 h2 h3;injection h1 with h1;injection h1 with h1;exact ⟨h1,h3⟩
 replace EN:=Lib.hid EN;clear f0 f1 f2 f3 f4 f5 f6 BY hcl hnext hb1 hv';go_wp2_with fail;refine (b9.out _).mono ?_;rintro e w2 ⟨rfl,rfl⟩;go_wp2_with fail;refine EN.out.mono ?_;rintro e w3 ⟨rfl,V',nN,hb3⟩;have hb:=(CV.out.mono hB).trans hb3;replace nN:=Lib.hid nN;replace hb:=Lib.hid hb;clear c0 c1 c2 c3 c4 c5 c6 hb3;go_wp2;go_ret;exact ⟨rfl,⟨Nat.le_trans hB hb.out.size,gm,nm,D,vr,_,_,V',nN.out,by have:=hwl.out;omega,by omega⟩,hb.out⟩
end
end Go.Proofs.YtddkjkockbcamaaGreatDoor
