import Derived.ChangeSlices
import Derived.Deep.CutBlock
import Derived.Deep.CutRange
import Derived.LaidMore
import Derived.OpenShut
import Derived.ProofKit
import Derived.SevenTiedAt
import Derived.SliceStrings
import Derived.Stop.Joined
import Derived.WideKeyArgs
import Derived.Test.YtkmofapihggjgaaGreatDoorCards
import Derived.Test.YtkmofapihggjgaaGreatDoorTie
import Derived.Test.YtkmofapihggjgaaGreatDoorX34
import Derived.Test.YtkmofapihggjgaaGreatDoorX36
import Derived.Test.YtkmofapihggjgaaGreatDoorX37
namespace Go.Proofs.YtkmofapihggjgaaGreatDoor
section
open Go.RowKit
set_option linter.unusedSimpArgs false
set_option linter.unusedVariables false
theorem Tryz.info3:(Tryz.prog.info? 3).map (fun i=>(i.zero,i.size,i.bytes))=some (some (.int .i64 0),1,8):=by kernel_rfl
set_option maxRecDepth 100000 in
set_option maxHeartbeats 1600000 in
theorem spaced_any {w:World} (hl:Gl w) (hg:Ge w) (hd:Gd w) {va vb:Option Addr} {n ca m cb xb xo yb yo:Nat} (ss:List ByteArray) (bs:List Int) (hn:ss.length=n) (hm:bs.length=m)
  (hva:0<n→va=some ⟨xb,xo,none⟩∧xb<w.heap.size) (hvb:0<m→vb=some ⟨yb,yo,none⟩∧yb<w.heap.size) (hn2:n≤maxLen) (hm2:m≤maxLen)
  (hca:∀j,j<n→w.cell? ⟨xb,xo+j,none⟩=some (.string (ss.getD j ByteArray.empty))) (hsz:∀s∈ss,s.size≤maxLen)
  (hcb:∀j,j<m→w.cell? ⟨yb,yo+j,none⟩=some (.int .i64 (bs.getD j 0))) (hbz:∀b∈bs,-9223372036854775808≤b∧b≤9223372036854775807):
  Calls Tryz.prog 3 #[.slice va n ca,.slice vb m cb] w fun e w'=>e=.returned (.bool true)∧Kept (fun _=>False) w w':=by
 obtain⟨i0,hi0,hz0,hz1,hz2⟩:=info_parts Tryz.info3
 obtain⟨N,hN⟩:∃N,N=min n 300:=⟨_,rfl⟩
 have HL:=hide hl
 have HG:=hide hg
 have HD:=hide hd
 have HVA:=hide hva
 have HVB:=hide hvb
 have HCA:=hide hca
 have HCB:=hide hcb
 have HSZ:=hide hsz
 have HBZ:=hide hbz
 have HN:=hide hN
 have HNM:Hid (ss.length=n∧bs.length=m∧n≤9223372036854775807∧m≤9223372036854775807):=⟨hn,hm,hn2,hm2⟩
 clear hl hg hd hva hvb hca hcb hsz hbz hn hm hN hn2 hm2
 go_enter Tryz.func3,Tryz.ntmps3
 go_wp2_with fail
 refine(awake_any HL.out HG.out HD.out).mono ?_
 rintro e w1 ⟨rfl,hk1⟩
 have HK1:=hide hk1
 clear hk1
 go_upto_block 0 with fail
 go_cut [6,7,8,9,10,11,12] from 21 (fun q6 q7 q8 q9 q10 q11 q12 W=>∃o1 o2,q6=.string o1∧q7=.string o2∧tl o1 0=flatP (pcA ss N)∧tl o2 0=flatP (pcB ss bs N)∧TR w W q8 q9 (plD (pcA ss N)) (plD (pcB ss bs N)))
 case first=>
  go_wp2_with fail
  go_loopg [6,7,8,9,10,11,12] 300 (fun gk q6 q7 q8 q9 q10 q11 q12 wr=>∃(k:Nat) (o1 o2:ByteArray),k≤N∧300 - k≤gk∧q6=.string o1∧q7=.string o2∧q10=.int .i64 (k:Nat)∧tl o1 0=flatP (pcA ss k)∧tl o2 0=flatP (pcB ss bs k)∧TR w wr q8 q9 (plD (pcA ss k)) (plD (pcB ss bs k)))
  case atStart=>exact⟨0,⟨#[]⟩,⟨#[]⟩,Nat.zero_le _,Nat.le_refl _,rfl,rfl,rfl,rfl,rfl,⟨HK1.out,Row.nil _ _ _ _,Row.nil _ _ _ _,fun g h=>by simp[Value.ownBlock] at h⟩⟩
  case round=>
   obtain⟨k,o1,o2,hkN,hgk,rfl,rfl,rfl,hf1,hf2,hT⟩:=hrel
   obtain⟨p8,c8,h8⟩:=Row.shape hT.ra
   obtain⟨p9,c9,h9⟩:=Row.shape hT.rb
   rw[plD_len,pcA_len] at h8
   rw[plD_len,pcB_len] at h9
   subst h8 h9
   have HF:Hid (tl o1 0=flatP (pcA ss k)∧tl o2 0=flatP (pcB ss bs k)):=⟨hf1,hf2⟩
   have HT:=hide hT
   have HGK:Hid (300 - k≤gk):=hgk
   clear hf1 hf2 hT hgk HK1
   have hN:=HN.out
   by_cases hk:k<N
   ·have hkn:k<n:=by omega
    have hk3:k<300:=by omega
    have hlt:(k:Int)<(n:Int):=by omega
    have h300:(k:Int)<300:=by omega
    obtain⟨rfl,hxb⟩:=HVA.out (by omega)
    obtain⟨s,hs⟩:∃s,s=ss.getD k ByteArray.empty:=⟨_,rfl⟩
    have HS:=hide hs
    have hs2:s.size≤maxLen:=HSZ.out s (by rw[hs];have:=HNM.out.1;simp[List.getD,show k<ss.length by omega])
    have c0:wr.cell? ⟨xb,xo+k,none⟩=some (.string s):=(HT.out.kept.cell (p:=⟨xb,xo+k,none⟩) hxb (fun c=>c)).trans (by rw[hs];exact HCA.out k hkn)
    have HS2:=hide hs2
    clear hs hs2 hxb hN hkn hk3
    go_wp2_with fail
    refine(plain_any s HS2.out _).mono ?_
    rintro e w2 ⟨rfl,hk2⟩
    have HK2:=hide hk2
    clear hk2 c0
    go_upto_if 39 with fail
    go_cut [12] from 21 to 71 (fun x W=>∃gs:ByteArray,x=.string gs∧tl gs 0=gapL (gapI bs k)∧w2=W)
    case first=>
     by_cases hkm:k<m
     ·have hltm:(k:Int)<(m:Int):=by omega
      obtain⟨rfl,hyb⟩:=HVB.out (by omega)
      obtain⟨b,hb⟩:∃b,b=bs.getD k 0:=⟨_,rfl⟩
      have hbb:=HBZ.out b (by rw[hb];have:=HNM.out.2.1;simp[List.getD,show k<bs.length by omega])
      have c1:w2.cell? ⟨yb,yo+k,none⟩=some (.int .i64 b):=((HT.out.kept.trans HK2.out).cell (p:=⟨yb,yo+k,none⟩) hyb (fun c=>c)).trans (by rw[hb];exact HCB.out k hkm)
      have HGP:Hid (gapI bs k=(pickZ b).toNat):=by
       show _=_
       unfold gapI
       rw[if_pos (by have:=HNM.out.2.1;omega),hb]
      have HBB:=hide hbb
      clear hb hbb hyb
      go_wp2_with fail
      refine(pick_any b HBB.out.1 HBB.out.2 _).mono ?_
      rintro e w3 ⟨rfl,rfl⟩
      have hz:pickZ b=0∨pickZ b=1∨pickZ b=2∨pickZ b=3∨pickZ b=4:=by unfold pickZ;split<;>omega
      clear c1 HBB
      generalize pickZ b=z at*
      rcases hz with rfl | rfl | rfl | rfl | rfl
      all_goals(go_wp2;go_meet;exact⟨_,rfl,by rw[HGP.out];decide,rfl⟩)
     ·have hltm:¬(k:Int)<(m:Int):=by omega
      have HGP:Hid (gapI bs k=0):=by
       show _=_
       unfold gapI
       rw[if_neg (by have:=HNM.out.2.1;omega)]
      clear hkm
      go_wp2
      go_meet
      case rel=>exact⟨_,rfl,by rw[HGP.out];decide,rfl⟩
    obtain⟨gs,rfl,hgs,rfl⟩:=hcut
    have HGS:=hide hgs
    have hw1:=(plain_ok s).size
    have hg1:=(gapL_len (gapI bs k)).2
    rw[←hgs,tl_len] at hg1
    have ho1:o1.size≤52*k:=by
     have:=flatP_len (pcA_ok ss k)
     rw[←HF.out.1,tl_len,pcA_len] at this
     exact this
    have ho2:o2.size≤52*k:=by
     have:=flatP_len (pcB_ok ss bs k)
     rw[←HF.out.2,tl_len,pcB_len] at this
     exact this
    have hk3:k<300:=by omega
    obtain⟨la,hla⟩:∃la,la=plD (pcA ss k):=⟨_,rfl⟩
    obtain⟨lb,hlb⟩:∃lb,lb=plD (pcB ss bs k):=⟨_,rfl⟩
    have e1:la.length=k:=by rw[hla,plD_len,pcA_len]
    have e2:lb.length=k:=by rw[hlb,plD_len,pcB_len]
    have h2:TR w w2 (.slice p8 k c8) (.slice p9 k c9) la lb:=by rw[hla,hlb];exact HT.out.to HK2.out
    obtain⟨sp,hsp⟩:∃sp,sp=plainM s:=⟨_,rfl⟩
    rw[←hsp] at hw1 ⊢
    have HOwn:Hid ((w2.alloc (.cells #[.int .i64 (o1.size:Nat)] 3)).ownsRow 0 3 1 (.slice p8 k c8) k (intC la)):=by
     have:=(h2.alloc (.cells #[.int .i64 (o1.size:Nat)] 3)).ra.own
     rw[e1] at this
     exact this
    have H2:=hide h2
    have HLA:Hid (la=plD (pcA ss k)∧lb=plD (pcB ss bs k)∧sp=plainM s):=⟨hla,hlb,hsp⟩
    have HE1:Hid (la.length=k∧lb.length=k):=⟨e1,e2⟩
    clear hgs hla hlb h2 hsp HT HK2 e1 e2
    go_wp2_with (at_builtin;refine wpList_append_lies _ rfl _ _ 23 rfl 0 3 i0 (.int .i64 0) 1 8 (by kernel_rfl) hi0 hz0 hz1 hz2 rfl (by decide) _ _ _ rfl HOwn.out ⟨_,0,none⟩ 1 1 [_] rfl rfl (cells_at (by simp) rfl) ?c2 (by omega) ?c3 ?c4 (Nat.zero_le _) (w2.heap.size+1) (by simp) ?_)
    case c2=>intro u hu;simp at hu;subst hu;rfl
    case c3=>unfold maxLen;omega
    case c4=>omega
    intro g3 c3 w3 hown3 hgrow hat hlt3
    have h3:TR w w3 (.slice (some ⟨g3,0,none⟩) (k+1) c3) (.slice p9 k c9) (la++[o1.size]) lb:=by
     have:=TR.grow (x:=o1.size) (g:=g3) (cap:=c3) (w3:=w3) (H2.out.alloc (.cells #[.int .i64 (o1.size:Nat)] 3)) (by rw[HE1.out.1];exact hown3) hgrow (by simpa using hat)
     rw[HE1.out.1] at this
     exact this
    have HOwn2:Hid ((w3.alloc (.cells #[.int .i64 (o2.size:Nat)] 3)).ownsRow 0 3 1 (.slice p9 k c9) k (intC lb)):=by
     have:=(h3.alloc (.cells #[.int .i64 (o2.size:Nat)] 3)).rb.own
     rw[HE1.out.2] at this
     exact this
    have H3:=hide h3
    clear h3 hown3 hgrow hat hlt3 H2 HOwn
    go_wp2_with (at_builtin;refine wpList_append_lies _ rfl _ _ 23 rfl 0 3 i0 (.int .i64 0) 1 8 (by kernel_rfl) hi0 hz0 hz1 hz2 rfl (by decide) _ _ _ rfl HOwn2.out ⟨_,0,none⟩ 1 1 [_] rfl rfl (cells_at (by simp) rfl) ?c2 (by omega) ?c3 ?c4 (Nat.zero_le _) (w3.heap.size+1) (by simp) ?_)
    case c2=>intro u hu;simp at hu;subst hu;rfl
    case c3=>unfold maxLen;omega
    case c4=>omega
    intro g4 c4 w4 hown4 hgrow hat hlt4
    have h4:TR w w4 (.slice (some ⟨g3,0,none⟩) (k+1) c3) (.slice (some ⟨g4,0,none⟩) (k+1) c4) (la++[o1.size]) (lb++[o2.size]):=by
     have:=TR.grow (x:=o2.size) (g:=g4) (cap:=c4) (w3:=w4) (H3.out.alloc (.cells #[.int .i64 (o2.size:Nat)] 3)).swap (by rw[HE1.out.2];exact hown4) hgrow (by simpa using hat)
     rw[HE1.out.2] at this
     exact this.swap
    have H4:=hide h4
    clear h4 hown4 hgrow hat hlt4 H3 HOwn2
    have q1:¬9223372036854775807<o1.size+sp.size:=by omega
    have q2:¬9223372036854775807<o1.size+sp.size+1:=by omega
    have q3:¬9223372036854775807<o2.size+sp.size:=by omega
    have q4:¬9223372036854775807<o2.size+sp.size+gs.size:=by omega
    go_wp2
    have HNX:Hid (k+1≤N∧gk - 1<gk∧300 - (k+1)≤gk - 1):=⟨by omega,by have:=HGK.out;omega,by have:=HGK.out;omega⟩
    have HR1:Hid (tl (o1++sp++⟨#[32]⟩) 0=flatP (pcA ss (k+1))):=by
     show _=_
     rw[tl_app,tl_app,HF.out.1,pcA_succ,flatP_app,←HS.out,←HLA.out.2.2]
     simp[flatP,tl,gapL]
    have HR2:Hid (tl (o2++sp++gs) 0=flatP (pcB ss bs (k+1))):=by
     show _=_
     rw[tl_app,tl_app,HF.out.2,pcB_succ,flatP_app,←HS.out,←HLA.out.2.2,HGS.out]
     simp[flatP]
    have HR3:Hid (TR w w4 (.slice (some ⟨g3,0,none⟩) (k+1) c3) (.slice (some ⟨g4,0,none⟩) (k+1) c4) (plD (pcA ss (k+1))) (plD (pcB ss bs (k+1)))):=by
     show TR _ _ _ _ _ _
     have:=H4.out
     rw[HLA.out.1,HLA.out.2.1,←tl_len o1,←tl_len o2,HF.out.1,HF.out.2,←plD_app _ (plainM (ss.getD k ByteArray.empty),0),←plD_app _ (plainM (ss.getD k ByteArray.empty),gapI bs k),←pcA_succ,←pcB_succ] at this
     exact this
    go_roundg (gk - 1)
    case measure=>exact HNX.out.2.1
    case rel=>exact⟨k+1,_,_,HNX.out.1,HNX.out.2.2,rfl,rfl,by simp,HR1.out,HR2.out,HR3.out⟩
   ·obtain rfl:k=N:=by omega
    have HX:Hid (∃q1 q2,Value.string o1=.string q1∧Value.string o2=.string q2∧tl q1 0=flatP (pcA ss k)∧tl q2 0=flatP (pcB ss bs k)∧TR w wr (.slice p8 k c8) (.slice p9 k c9) (plD (pcA ss k)) (plD (pcB ss bs k))):=⟨o1,o2,rfl,rfl,HF.out.1,HF.out.2,HT.out⟩
    by_cases hk:k<n
    ·have hlt:(k:Int)<(n:Int):=by omega
     have h300:¬(k:Int)<300:=by omega
     clear hkN hN hk
     go_wp2
     go_meet
     case rel=>exact HX.out
    ·have hlt:¬(k:Int)<(n:Int):=by omega
     clear hkN hN hk
     go_wp2
     go_meet
     case rel=>exact HX.out
 obtain⟨o1,o2,rfl,rfl,hf1,hf2,hT⟩:=hcut
 have hN3:N≤300:=by have:=HN.out;omega
 obtain⟨p8,c8,h8⟩:=Row.shape hT.ra
 obtain⟨p9,c9,h9⟩:=Row.shape hT.rb
 rw[plD_len,pcA_len] at h8
 rw[plD_len,pcB_len] at h9
 subst h8 h9
 have ho1:o1.size≤52*N:=by
  have:=flatP_len (pcA_ok ss N)
  rw[←hf1,tl_len,pcA_len] at this
  exact this
 have ho2:o2.size≤52*N:=by
  have:=flatP_len (pcB_ok ss bs N)
  rw[←hf2,tl_len,pcB_len] at this
  exact this
 have t1:=toksM_at hf1 (pcA_ok ss N)
 have t2:=toksM_at hf2 (pcB_ok ss bs N)
 have n1:=news_of (tame_at hf1 (pcA_ok ss N) (by omega))
 have n2:=news_of (tame_at hf2 (pcB_ok ss bs N) (by omega))
 rw[t1] at n1
 rw[t2] at n2
 have e1:=toks_phi (pcA ss N)
 have e2:=toks_phi (pcB ss bs N)
 rw[←toksI_same (pc_same ss bs N)] at e2
 obtain⟨x,q,p,r,hx,hy,hcs⟩:=same_ans (phi_0 (pcA ss N)) (phi_0 (pcB ss bs N)) (T:=toksI 0 (pcA ss N)) (n:=N) (fun t ht=>by have:=toksI_le t ht;rw[pcA_len] at this;omega) o1 o2
 rw[e1] at hx
 rw[e2] at hy
 have HC1:Hid (∀W,Kept (fun _=>False) w W→Calls Tryz.prog 7 #[.string o1] W fun e W'=>e=.returned (.tuple #[.string x,.int .i64 (q:Nat),.int .i64 (p:Nat)])∧Kept (fun _=>False) W W'):=fun W hW=>by
  have:=assemble_any (w:=W) (by omega) n1 (HL.out.kept hW) (HG.out.kept hW) (HD.out.kept hW) (TW_toks (pcA_ok ss N) (by rw[pcA_len];exact hN3)) (by rw[toksP_len];omega) (.inl fun t ht=>(toksP_in (pcA_ok ss N) t ht).2)
  rw[hx] at this
  exact this
 have HC2:Hid (∀W,Kept (fun _=>False) w W→Calls Tryz.prog 7 #[.string o2] W fun e W'=>e=.returned (.tuple #[.string x,.int .i64 (q:Nat),.int .i64 (r:Nat)])∧Kept (fun _=>False) W W'):=fun W hW=>by
  have:=assemble_any (w:=W) (by omega) n2 (HL.out.kept hW) (HG.out.kept hW) (HD.out.kept hW) (TW_toks (pcB_ok ss bs N) (by rw[pcB_len];exact hN3)) (by rw[toksP_len];omega) (.inl fun t ht=>(toksP_in (pcB_ok ss bs N) t ht).2)
  rw[hy] at this
  exact this
 obtain⟨la,hla⟩:∃la,la=plD (pcA ss N):=⟨_,rfl⟩
 obtain⟨lb,hlb⟩:∃lb,lb=plD (pcB ss bs N):=⟨_,rfl⟩
 have l1:la.length=N:=by rw[hla,plD_len,pcA_len]
 have l2:lb.length=N:=by rw[hlb,plD_len,pcB_len]
 rw[←hla,←hlb] at hT
 have HE:Hid (la++[o1.size]=plcP 0 (pcA ss N)∧lb++[o2.size]=plcP 0 (pcB ss bs N)):=by
  refine⟨?_,?_⟩
  ·rw[plD_end,hla,←hf1,tl_len]
  ·rw[plD_end,hlb,←hf2,tl_len]
 have HOwn:Hid ((wc.alloc (.cells #[.int .i64 (o1.size:Nat)] 3)).ownsRow 0 3 1 (.slice p8 N c8) N (intC la)):=by
  have:=(hT.alloc (.cells #[.int .i64 (o1.size:Nat)] 3)).ra.own
  rw[l1] at this
  exact this
 have H2:=hide hT
 have HE1:Hid (la.length=N∧lb.length=N):=⟨l1,l2⟩
 have HCS:=hide hcs
 clear hf1 hf2 hT t1 t2 n1 n2 e1 e2 hx hy hla hlb l1 l2 hcs HL HG HD HVA HVB HCA HCB HSZ HBZ HN HNM
 go_wp2_with (at_builtin;refine wpList_append_lies _ rfl _ _ 23 rfl 0 3 i0 (.int .i64 0) 1 8 (by kernel_rfl) hi0 hz0 hz1 hz2 rfl (by decide) _ _ _ rfl HOwn.out ⟨_,0,none⟩ 1 1 [_] rfl rfl (cells_at (by simp) rfl) ?c2 (by omega) ?c3 ?c4 (Nat.zero_le _) (wc.heap.size+1) (by simp) ?_)
 case c2=>first | rfl | (intro u hu;simp at hu;subst hu;rfl)
 case c3=>unfold maxLen;omega
 case c4=>omega
 intro g3 c3 w3 hown3 hgrow hat hlt3
 have h3:TR w w3 (.slice (some ⟨g3,0,none⟩) (N+1) c3) (.slice p9 N c9) (la++[o1.size]) lb:=by
  have:=TR.grow (x:=o1.size) (g:=g3) (cap:=c3) (w3:=w3) (H2.out.alloc (.cells #[.int .i64 (o1.size:Nat)] 3)) (by rw[HE1.out.1];exact hown3) hgrow (by simpa using hat)
  rw[HE1.out.1] at this
  exact this
 have HOwn2:Hid ((w3.alloc (.cells #[.int .i64 (o2.size:Nat)] 3)).ownsRow 0 3 1 (.slice p9 N c9) N (intC lb)):=by
  have:=(h3.alloc (.cells #[.int .i64 (o2.size:Nat)] 3)).rb.own
  rw[HE1.out.2] at this
  exact this
 have H3:=hide h3
 clear h3 hown3 hgrow hat hlt3 H2 HOwn
 go_wp2_with (at_builtin;refine wpList_append_lies _ rfl _ _ 23 rfl 0 3 i0 (.int .i64 0) 1 8 (by kernel_rfl) hi0 hz0 hz1 hz2 rfl (by decide) _ _ _ rfl HOwn2.out ⟨_,0,none⟩ 1 1 [_] rfl rfl (cells_at (by simp) rfl) ?c2 (by omega) ?c3 ?c4 (Nat.zero_le _) (w3.heap.size+1) (by simp) ?_)
 case c2=>first | rfl | (intro u hu;simp at hu;subst hu;rfl)
 case c3=>unfold maxLen;omega
 case c4=>omega
 intro g4 c4 w4 hown4 hgrow hat hlt4
 have h4:TR w w4 (.slice (some ⟨g3,0,none⟩) (N+1) c3) (.slice (some ⟨g4,0,none⟩) (N+1) c4) (la++[o1.size]) (lb++[o2.size]):=by
  have:=TR.grow (x:=o2.size) (g:=g4) (cap:=c4) (w3:=w4) (H3.out.alloc (.cells #[.int .i64 (o2.size:Nat)] 3)).swap (by rw[HE1.out.2];exact hown4) hgrow (by simpa using hat)
  rw[HE1.out.2] at this
  exact this.swap
 rw[HE.out.1,HE.out.2] at h4
 have H4:=hide h4
 clear h4 hown4 hgrow hat hlt4 H3 HOwn2 HE HE1
 go_wp2_with fail
 refine(HC1.out w4 H4.out.kept).mono ?_
 rintro e w5 ⟨rfl,hk5⟩
 have H5:=hide (H4.out.to hk5)
 clear hk5 H4
 go_wp2_with fail
 refine(HC2.out w5 H5.out.kept).mono ?_
 rintro e w6 ⟨rfl,hk6⟩
 have H6:=hide (H5.out.to hk6)
 clear hk6 H5 HC1 HC2
 rcases HCS.out with⟨hq,rfl,rfl⟩ | ⟨hq0,hq1,rfl,j,hj,rfl,rfl⟩
 ·clear HCS
  rcases hq with rfl | rfl
  ·go_wp2
   go_ret
   exact⟨rfl,H6.out.kept⟩
  ·go_wp2
   go_ret
   exact⟨rfl,H6.out.kept⟩
 ·have q0:((q:Int)==0)=false:=by simp;omega
  have q1:((q:Int)==1)=false:=by simp;omega
  clear HCS hq0 hq1
  go_wp2
  go_loopw [19] (fun q19 wr=>∃i:Nat,i≤j∧q19=.int .i64 (i:Nat)∧wr=w6) (fun q19 _=>j+1 - (intOf q19).toNat)
  case atStart=>exact⟨0,Nat.zero_le _,rfl,rfl⟩
  case round=>
   obtain⟨i,hij,rfl,rfl⟩:=hrel
   have hlt:(i:Int)<(N:Int)+1:=by omega
   obtain⟨ga,cga,hva,ka⟩:=H6.out.cell (i:=i) (by rw[plcP_len,pcA_len];omega)
   obtain⟨gb,cgb,hvb,kb⟩:=H6.out.swap.cell (i:=i) (by rw[plcP_len,pcB_len];omega)
   rw[plcP_len,pcA_len] at hva
   rw[plcP_len,pcB_len] at hvb
   cases hva
   cases hvb
   obtain⟨x1,hx1⟩:∃x,x=(plcP 0 (pcA ss N)).getD i 0:=⟨_,rfl⟩
   obtain⟨x2,hx2⟩:∃x,x=(plcP 0 (pcB ss bs N)).getD i 0:=⟨_,rfl⟩
   rw[←hx1] at ka
   rw[←hx2] at kb
   have hph1:phi (pcA ss N) i=x1:=by rw[hx1];unfold phi;rw[List.getD_eq_getElem?_getD]
   have hph2:phi (pcB ss bs N) i=x2:=by rw[hx2];unfold phi;rw[List.getD_eq_getElem?_getD]
   have HPH:Hid (phi (pcA ss N) i=x1∧phi (pcB ss bs N) i=x2):=⟨hph1,hph2⟩
   have H7:=hide H6.out.kept
   clear hx1 hx2 hph1 hph2
   by_cases hc:x1=phi (pcA ss N) j
   ·have tc:((x1:Int)==(phi (pcA ss N) j:Int))=true:=by simp;omega
    by_cases hd:x2=phi (pcB ss bs N) j
    ·have td:((x2:Int)==(phi (pcB ss bs N) j:Int))=true:=by simp;omega
     clear hc hd
     go_wp2
     go_ret
     exact⟨rfl,H7.out⟩
    ·have td:((x2:Int)==(phi (pcB ss bs N) j:Int))=false:=by simp;omega
     have hne:i≠j:=fun e=>by subst e;exact hd HPH.out.2.symm
     clear hc hd
     go_wp2
     go_roundw
     case rel=>exact⟨i+1,by omega,by go_num,by first | trivial | rfl⟩
     case measure=>simp[intOf];omega
   ·have tc:((x1:Int)==(phi (pcA ss N) j:Int))=false:=by simp;omega
    have hne:i≠j:=fun e=>by subst e;exact hc HPH.out.1.symm
    clear hc
    go_wp2
    go_roundw
    case rel=>exact⟨i+1,by omega,by go_num,by first | trivial | rfl⟩
    case measure=>simp[intOf];omega
end
section
open Go.ChangeShapes Go.WideShapes Go.ChangeAt Go.RowKit
set_option linter.unusedSimpArgs false
theorem kept_but {W W':World} (h:Kept (fun _=>False) W W') (may:MemPlace→Prop):W.keptBut W' may:=by
 refine⟨h.os,h.output,fun i hi=>?_⟩
 rw[h.block i hi (fun c=>c)]
 split<;>simp_all
theorem own_knob:ownKnob Tryz.prog.godebug=none:=by kernel_rfl
theorem laid_out:laidOutB Tryz.prog=true:=by kernel_rfl
theorem door_met (os:Os) (args:Array Value):laidMetH Tryz.prog Rows.spacedRow.laid ((World.doorLaid Tryz.prog 77 os).forCall (fun _ _=>0) ⟨#[],args,[]⟩).memory:=
 laidMetH_of_parts3 (fuel:=8) (laidMet_of_run' 8 (by kernel_rfl) (by kernel_rfl)) (by kernel_rfl) (by kernel_rfl)
theorem rng64 {n:Int} (h:(Lit.int .i64 n).wf=true): -9223372036854775808≤n∧n≤9223372036854775807:=by
 simp only[Lit.wf,Bool.and_eq_true,decide_eq_true_eq] at h
 have e1:IntKind.i64.min= -9223372036854775808:=by decide
 have e2:IntKind.i64.max=9223372036854775807:=by decide
 rw[e1,e2] at h
 omega
section
variable {H:Type} {enc:TypeId×Value→H} {W:World}
theorem texts_in {p:Option Addr} {n c:Nat} {d:DataW H} {ps:List MemPlace} (h:DataW.Trod enc Tryz.prog W 0 (fun _=>true) true 22 (.slice p n c) d ps) (hlt:∀x∈ps,x.block<W.heap.size):
  ∃(ss:List ByteArray) (xb xo:Nat),ss.length=n∧n≤maxLen∧(0<n→p=some ⟨xb,xo,none⟩∧xb<W.heap.size)∧(∀j,j<n→W.cell? ⟨xb,xo+j,none⟩=some (.string (ss.getD j ByteArray.empty)))∧(∀s∈ss,s.size≤maxLen)∧∀x∈ps,∃b o,x=.cell b o:=by
 obtain⟨fuel,hf⟩:=h
 rcases open_strings Tryz.underlying22 Tryz.underlying9 (by kernel_rfl) hf with⟨hcs,hx⟩ | ⟨a,len,cap,ss,hcs,_,hl,hm,hz,hx,hcell,hws⟩
 ·simp[Value.cells] at hcs
  obtain⟨rfl,rfl,rfl⟩:=hcs
  simp only[Prod.mk.injEq] at hx
  obtain⟨rfl,rfl⟩:=hx
  exact⟨[],0,0,rfl,Nat.zero_le _,fun h=>by omega,fun j hj=>by omega,fun s hs=>by simp at hs,fun x hx=>by cases hx⟩
 ·simp[Value.cells] at hcs
  obtain⟨rfl,rfl,rfl⟩:=hcs
  simp only[Prod.mk.injEq] at hx
  obtain⟨rfl,rfl⟩:=hx
  simp only[if_true] at hz
  have hcl:∀x∈MemPlace.row a ss.length,∃b o,x=.cell b o:=fun x hx=>by
   simp only[MemPlace.row,List.mem_map] at hx
   obtain⟨i,_,rfl⟩:=hx
   exact⟨_,_,rfl⟩
  by_cases hn:n=0
  ·subst hn
   exact⟨[],0,0,rfl,Nat.zero_le _,fun h=>by omega,fun j hj=>by omega,fun s hs=>by simp at hs,hcl⟩
  ·obtain⟨xb,xo,spot⟩:=a
   have hspot:spot=none:=by simpa [Addr.add] using World.cell?_spot (hcell 0 (by omega))
   subst hspot
   refine⟨ss.take n,xb,xo,by simp;omega,by omega,fun _=>⟨rfl,?_⟩,fun j hj=>?_,fun s hs=>hws s (List.mem_of_mem_take hs),hcl⟩
   ·have:=hlt (.cell xb xo) (by
     simp only[MemPlace.row,List.mem_map,List.mem_range]
     exact⟨0,by omega,rfl⟩)
    exact this
   ·have:=hcell j (by omega)
    rw[Addr.add_lit] at this
    rw[this]
    simp[List.getD,hj]
theorem ints_in {p:Option Addr} {n c:Nat} {d:DataW H} {ps:List MemPlace} (h:DataW.Trod enc Tryz.prog W 0 (fun _=>true) true 23 (.slice p n c) d ps) (hlt:∀x∈ps,x.block<W.heap.size):
  ∃(bs:List Int) (xb xo:Nat),bs.length=n∧n≤maxLen∧(0<n→p=some ⟨xb,xo,none⟩∧xb<W.heap.size)∧(∀j,j<n→W.cell? ⟨xb,xo+j,none⟩=some (.int .i64 (bs.getD j 0)))∧(∀b∈bs,-9223372036854775808≤b∧b≤9223372036854775807)∧∀x∈ps,∃b o,x=.cell b o:=by
 obtain⟨fuel,hf⟩:=h
 rcases open_ints Tryz.underlying23 Tryz.underlying3 (by kernel_rfl) hf with⟨hcs,hx⟩ | ⟨a,len,cap,ss,hcs,_,hl,hm,hz,hx,hcell,hws⟩
 ·simp[Value.cells] at hcs
  obtain⟨rfl,rfl,rfl⟩:=hcs
  simp only[Prod.mk.injEq] at hx
  obtain⟨rfl,rfl⟩:=hx
  exact⟨[],0,0,rfl,Nat.zero_le _,fun h=>by omega,fun j hj=>by omega,fun s hs=>by simp at hs,fun x hx=>by cases hx⟩
 ·simp[Value.cells] at hcs
  obtain⟨rfl,rfl,rfl⟩:=hcs
  simp only[Prod.mk.injEq] at hx
  obtain⟨rfl,rfl⟩:=hx
  simp only[if_true] at hz
  have hcl:∀x∈MemPlace.row a ss.length,∃b o,x=.cell b o:=fun x hx=>by
   simp only[MemPlace.row,List.mem_map] at hx
   obtain⟨i,_,rfl⟩:=hx
   exact⟨_,_,rfl⟩
  by_cases hn:n=0
  ·subst hn
   exact⟨[],0,0,rfl,Nat.zero_le _,fun h=>by omega,fun j hj=>by omega,fun s hs=>by simp at hs,hcl⟩
  ·obtain⟨xb,xo,spot⟩:=a
   have hspot:spot=none:=by simpa [Addr.add] using World.cell?_spot (hcell 0 (by omega))
   subst hspot
   refine⟨ss.take n,xb,xo,by simp;omega,by omega,fun _=>⟨rfl,?_⟩,fun j hj=>?_,fun s hs=>rng64 (hws s (List.mem_of_mem_take hs)),hcl⟩
   ·have:=hlt (.cell xb xo) (by
     simp only[MemPlace.row,List.mem_map,List.mem_range]
     exact⟨0,by omega,rfl⟩)
    exact this
   ·have:=hcell j (by omega)
    rw[Addr.add_lit] at this
    rw[this]
    simp[List.getD,hj]
end
set_option maxRecDepth 100000 in
theorem spaced_lifted (os:Os) (started:os.Started) (H:Type) (enc:TypeId×Value→H):
  ReturnsInHanded {} Tryz.checked os 3 .any (fun w args=>(Rows.spacedSpec.pre enc Tryz.prog Tryz.f3 [] false w args∧laidMetH Tryz.prog Rows.spacedRow.laid w)∧sizedMet enc Tryz.prog Tryz.f3 (OpenSpec.ofChange Rows.spacedSpec) false w args)
   (Rows.spacedSpec.post enc Tryz.prog Tryz.f3 false true false false):=by
 refine returnsInHanded_of_change_and (C:=Tryz.checked) (X:=fun w _=>laidMetH Tryz.prog Rows.spacedRow.laid w) (fun _ _ _ hh h=>h.of_heap hh) own_knob started (by kernel_rfl) Tryz.func3
  (ChangeSpec.witness_shaped (enc:=enc) (C:=Tryz.checked) (os:=os) (X:=fun w _=>laidMetH Tryz.prog Rows.spacedRow.laid w) false (World.doorLaid Tryz.prog 77 os) #[.slice none 0 0,.slice none 0 0] 8 rfl (World.shaped_of_RefB (by kernel_rfl) (by kernel_rfl)) (by kernel_rfl) (by kernel_rfl) (by kernel_rfl) (door_met os _)) ?_
 intro W base args ds gs before hval0 hW _ _ hL _
 have hval:∀(j:Nat) t v,Tryz.f3.params[j]?=some t→args[j]?=some v→Value.okWide Tryz.prog W .any base t v:=hval0
 have hW':=hW
 obtain⟨p,q,hA0,hV,rfl,hfz,_⟩:=hW
 have hA:DataW.TrodAll enc Tryz.prog W 0 (fun _=>true) true Tryz.f3.params.toList args.toList ds p:=hA0
 rw[Tryz.params3] at hA hval
 obtain⟨v0,v1,d0,d1,p0,p1,rfl,rfl,rfl,h0,h1⟩:=trodAll_two hA
 obtain⟨rfl,rfl⟩:=trodVars_none hV
 obtain⟨a0,n0,c0,rfl⟩:=okWide_slice Tryz.underlying22 (hval 0 22 v0 rfl rfl)
 obtain⟨a1,n1,c1,rfl⟩:=okWide_slice Tryz.underlying23 (hval 1 23 v1 rfl rfl)
 have hlt:∀x∈p0++p1,x.block<W.heap.size:=fun x hx=>hW'.lt x (by simpa using hx)
 obtain⟨ss,xb,xo,hs1,hs2,hs3,hs4,hs5,hs6⟩:=texts_in h0 (fun x hx=>hlt x (List.mem_append_left _ hx))
 obtain⟨bs,yb,yo,hb1,hb2,hb3,hb4,hb5,hb6⟩:=ints_in h1 (fun x hx=>hlt x (List.mem_append_right _ hx))
 clear hA0 hval0
 obtain⟨gl,ge,gd⟩:=start_all hL
 refine(spaced_any gl ge gd ss bs hs1 hb1 hs3 hb3 hs2 hb2 hs4 hs5 hb4 hb5).mono fun e W' ⟨he,hk⟩=>?_
 subst he
 refine⟨_,rfl,_,_,_,[],p0++p1,[],hW',?_,?_,?_,kept_but hk _,fun h=>by cases h⟩
 ·exact trodAll_mk1 (shut_bool Tryz.underlying4 true)
 ·have same:∀x∈p0++p1,W.sameAt W' x:=fun x hx=>by
   obtain⟨b,o,rfl⟩:∃b o,x=.cell b o:=(List.mem_append.1 hx).elim (hs6 x) (hb6 x)
   exact hk.cell (p:=⟨b,o,none⟩) (hlt _ hx) (fun c=>c)
  exact trodAll_mk2 (WideElems.Trod_stays (P:=Tryz.prog) laid_out (by kernel_rfl) (of_decide_eq_true (by kernel_rfl)) h0 (fun x hx=>same x (List.mem_append_left _ hx)) (fun x hx=>by simpa using hlt x (List.mem_append_left _ hx)))
   (WideElems.Trod_stays (P:=Tryz.prog) laid_out (by kernel_rfl) (of_decide_eq_true (by kernel_rfl)) h1 (fun x hx=>same x (List.mem_append_right _ hx)) (fun x hx=>by simpa using hlt x (List.mem_append_right _ hx)))
 ·rfl
end
end Go.Proofs.YtkmofapihggjgaaGreatDoor
