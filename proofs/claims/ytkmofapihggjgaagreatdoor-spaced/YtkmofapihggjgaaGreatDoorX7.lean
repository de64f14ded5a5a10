import Derived.Ground.MpProg
import Derived.Shelf.Pu.ErrVarParseUint
import Derived.Shelf.Pu.ParseUintPublic10
import Derived.Test.YtkmofapihggjgaaGreatDoorX5
namespace Go.Proofs.YtkmofapihggjgaaGreatDoor
section
open Go.RowKit Go.Shelf
def laysPu_ren:Go.Shelf.Ren:=⟨fun | 14=>167 | 16=>168 | 17=>169 | 19=>170 | 20=>171 | 21=>172 | 22=>173 | 23=>174 | 24=>175 | 25=>176 | 27=>178 | 26=>177 | 28=>179 | 29=>180 | 30=>181 | 31=>182 | 32=>183 | 33=>184 | 35=>186 | 34=>185 | 36=>187 | 37=>188 | 38=>189 | 39=>166 | 40=>190 | n=>n,fun | 9=>9 | 3=>3 | 22=>220 | 24=>225 | 25=>226 | 4=>4 | 34=>230 | 5=>5 | 36=>150 | 37=>31 | 0=>0 | 39=>231 | 21=>21 | 44=>235 | 47=>238 | 50=>241 | 48=>239 | 2=>2 | 52=>243 | 55=>246 | 59=>250 | 60=>64 | 20=>20 | 61=>251 | 65=>228 | 66=>254 | 67=>98 | n=>n,fun | 0=>5 | 1=>6 | 2=>7 | 3=>4 | 4=>8 | n=>n⟩
theorem laysPu:Go.Proofs.LaysPu.n14 Tryz.prog laysPu_ren:={
 mixed:=by kernel_rfl
 f14:=Tryz.func167.trans (congrArg some (by kernel_rfl))
 f16:=Tryz.func168.trans (congrArg some (by kernel_rfl))
 f17:=Tryz.func169.trans (congrArg some (by kernel_rfl))
 f19:=Tryz.func170.trans (congrArg some (by kernel_rfl))
 f20:=Tryz.func171.trans (congrArg some (by kernel_rfl))
 f21:=Tryz.func172.trans (congrArg some (by kernel_rfl))
 f22:=Tryz.func173.trans (congrArg some (by kernel_rfl))
 f23:=Tryz.func174.trans (congrArg some (by kernel_rfl))
 f24:=Tryz.func175.trans (congrArg some (by kernel_rfl))
 f25:=Tryz.func176.trans (congrArg some (by kernel_rfl))
 f26:=Tryz.func177.trans (congrArg some (by kernel_rfl))
 f27:=Tryz.func178.trans (congrArg some (by kernel_rfl))
 f28:=Tryz.func179.trans (congrArg some (by kernel_rfl))
 f29:=Tryz.func180.trans (congrArg some (by kernel_rfl))
 f30:=Tryz.func181.trans (congrArg some (by kernel_rfl))
 f31:=Tryz.func182.trans (congrArg some (by kernel_rfl))
 f32:=Tryz.func183.trans (congrArg some (by kernel_rfl))
 f33:=Tryz.func184.trans (congrArg some (by kernel_rfl))
 f34:=Tryz.func185.trans (congrArg some (by kernel_rfl))
 f35:=Tryz.func186.trans (congrArg some (by kernel_rfl))
 f36:=Tryz.func187.trans (congrArg some (by kernel_rfl))
 f37:=Tryz.func188.trans (congrArg some (by kernel_rfl))
 f38:=Tryz.func189.trans (congrArg some (by kernel_rfl))
 f39:=Tryz.func166.trans (congrArg some (by kernel_rfl))
 f40:=Tryz.func190.trans (congrArg some (by kernel_rfl))
 t0:=Tryz.underlying0
 a0:=Tryz.isAgg0
 z0:=Tryz.sizeOf0
 v0:=Tryz.zeroValue0
 i0:=by kernel_rfl
 t2:=Tryz.underlying2
 a2:=Tryz.isAgg2
 z2:=Tryz.sizeOf2
 v2:=Tryz.zeroValue2
 i2:=by kernel_rfl
 t3:=Tryz.underlying3
 a3:=Tryz.isAgg3
 z3:=Tryz.sizeOf3
 v3:=Tryz.zeroValue3
 i3:=by kernel_rfl
 t4:=Tryz.underlying4
 a4:=Tryz.isAgg4
 z4:=Tryz.sizeOf4
 v4:=Tryz.zeroValue4
 i4:=by kernel_rfl
 t5:=Tryz.underlying5
 a5:=Tryz.isAgg5
 z5:=Tryz.sizeOf5
 v5:=Tryz.zeroValue5
 i5:=by kernel_rfl
 t9:=Tryz.underlying9
 a9:=Tryz.isAgg9
 z9:=Tryz.sizeOf9
 v9:=Tryz.zeroValue9
 i9:=by kernel_rfl
 t20:=Tryz.underlying20
 a20:=Tryz.isAgg20
 z20:=Tryz.sizeOf20
 v20:=Tryz.zeroValue20
 i20:=by kernel_rfl
 t21:=Tryz.underlying21
 a21:=Tryz.isAgg21
 z21:=Tryz.sizeOf21
 v21:=Tryz.zeroValue21
 i21:=by kernel_rfl
 t22:=Tryz.underlying220
 a22:=Tryz.isAgg220
 z22:=Tryz.sizeOf220
 v22:=Tryz.zeroValue220
 i22:=by kernel_rfl
 t24:=Tryz.underlying225
 a24:=Tryz.isAgg225
 z24:=Tryz.sizeOf225
 v24:=Tryz.zeroValue225
 i24:=by kernel_rfl
 t25:=Tryz.underlying226
 a25:=Tryz.isAgg226
 z25:=Tryz.sizeOf226
 v25:=Tryz.zeroValue226
 i25:=by kernel_rfl
 t34:=Tryz.underlying230
 a34:=Tryz.isAgg230
 z34:=Tryz.sizeOf230
 v34:=Tryz.zeroValue230
 i34:=by kernel_rfl
 c34:=by kernel_rfl
 t36:=Tryz.underlying150
 a36:=Tryz.isAgg150
 z36:=Tryz.sizeOf150
 v36:=Tryz.zeroValue150
 i36:=by kernel_rfl
 t37:=Tryz.underlying31
 a37:=Tryz.isAgg31
 z37:=Tryz.sizeOf31
 v37:=Tryz.zeroValue31
 i37:=by kernel_rfl
 t39:=Tryz.underlying231
 a39:=Tryz.isAgg231
 z39:=Tryz.sizeOf231
 v39:=Tryz.zeroValue231
 i39:=by kernel_rfl
 t44:=Tryz.underlying235
 a44:=Tryz.isAgg235
 z44:=Tryz.sizeOf235
 v44:=Tryz.zeroValue235
 i44:=by kernel_rfl
 t47:=Tryz.underlying238
 a47:=Tryz.isAgg238
 z47:=Tryz.sizeOf238
 v47:=Tryz.zeroValue238
 i47:=by kernel_rfl
 t48:=Tryz.underlying239
 a48:=Tryz.isAgg239
 z48:=Tryz.sizeOf239
 v48:=Tryz.zeroValue239
 i48:=by kernel_rfl
 t50:=Tryz.underlying241
 a50:=Tryz.isAgg241
 z50:=Tryz.sizeOf241
 v50:=Tryz.zeroValue241
 i50:=by kernel_rfl
 t52:=Tryz.underlying243
 a52:=Tryz.isAgg243
 z52:=Tryz.sizeOf243
 v52:=Tryz.zeroValue243
 i52:=by kernel_rfl
 t55:=Tryz.underlying246
 a55:=Tryz.isAgg246
 z55:=Tryz.sizeOf246
 v55:=Tryz.zeroValue246
 i55:=by kernel_rfl
 t59:=Tryz.underlying250
 a59:=Tryz.isAgg250
 z59:=Tryz.sizeOf250
 v59:=Tryz.zeroValue250
 i59:=by kernel_rfl
 t60:=Tryz.underlying64
 a60:=Tryz.isAgg64
 z60:=Tryz.sizeOf64
 v60:=Tryz.zeroValue64
 i60:=by kernel_rfl
 t61:=Tryz.underlying251
 a61:=Tryz.isAgg251
 z61:=Tryz.sizeOf251
 t65:=Tryz.underlying228
 a65:=Tryz.isAgg228
 z65:=Tryz.sizeOf228
 v65:=Tryz.zeroValue228
 i65:=by kernel_rfl
 t66:=Tryz.underlying254
 a66:=Tryz.isAgg254
 z66:=Tryz.sizeOf254
 v66:=Tryz.zeroValue254
 i66:=by kernel_rfl
 t67:=Tryz.underlying98
 a67:=Tryz.isAgg98
 z67:=Tryz.sizeOf98
 v67:=Tryz.zeroValue98
 i67:=by kernel_rfl
 g0:=by kernel_rfl
 m0:=by kernel_rfl
 g1:=by kernel_rfl
 m1:=by kernel_rfl
 g2:=by kernel_rfl
 m2:=by kernel_rfl
 g3:=by kernel_rfl
 m3:=by kernel_rfl
 g4:=by kernel_rfl
 m4:=by kernel_rfl}
def numB (bits:Nat) (s:ByteArray):Option Nat:=match Lib.parseUintB bits s.data.toList with
 | .ok u=>some u
 | _=>none
structure Ge (w:World):Prop where
 syn:∃tp p,w.var? Tryz.prog "strconv.ErrSyntax" =some #[.iface tp p]
 rng:∃tp p,w.var? Tryz.prog "strconv.ErrRange" =some #[.iface tp p]
theorem var_kept {w w':World} {n:String} {cs:Array Value} (h:w.var? Tryz.prog n=some cs) (hk:Kept (fun _=>False) w w'):w'.var? Tryz.prog n=some cs:=by
 unfold World.var? at h ⊢
 cases hg:Tryz.prog.globalNamed n with
 | none=>rw[hg] at h;cases h
 | some g=>
  rw[hg] at h
  simp only[Option.bind_some] at h ⊢
  by_cases hl:g<w.heap.size
  ·rw[hk.block g hl (fun c=>c)]
   exact h
  ·rw[Array.getElem?_eq_none (by omega)] at h
   cases h
theorem Ge.kept {w w':World} (h:Ge w) (hk:Kept (fun _=>False) w w'):Ge w':=by
 obtain⟨⟨a,b,h1⟩,⟨c,d,h2⟩⟩:=h
 exact⟨⟨a,b,var_kept h1 hk⟩,⟨c,d,var_kept h2 hk⟩⟩
theorem Below.to_kept {w w':World} (h:Below w.heap.size w w'):Kept (fun _=>False) w w':=by
 exact⟨h.os,h.tape,h.output,h.size,fun k hk _=>h.block k hk⟩
theorem bytesW_kept {w w':World} {e:TypeId} {s:ByteArray} (h:w'=w∨w'=Lib.bytesWorld w e s):Kept (fun _=>False) w w':=by
 rcases h with rfl | rfl
 ·exact Kept.refl _ _
 ·have:=Lib.bytesWorld_below w e s
  refine⟨this.os,rfl,this.output,this.size,fun k hk _=>this.block k hk⟩
theorem parse32_any (s:ByteArray) (hs:s.size≤100) {w:World} (hg:Ge w):Calls Tryz.prog 167 #[.string s,.int .i64 10,.int .i64 32] w fun e w'=>∃u v,e=.returned (.tuple #[.int .u64 (u:Nat),v])∧(numB 32 s=none→∃t x,v=.iface t x)∧(∀n,numB 32 s=some n→u=n∧v=.nilIface)∧Kept (fun _=>False) w w':=by
 obtain⟨⟨a,b,h1⟩,⟨c,d,h2⟩⟩:=hg
 unfold numB
 rcases h:Lib.parseUintB 32 s.data.toList with u | _ | _
 ·refine(Any.strconv_ParseUint_10_at32_ok laysPu s (by omega) u h w).mono ?_
  rintro e w' ⟨rfl,hw⟩
  refine⟨u,_,rfl,by simp,by simp,?_⟩
  exact bytesW_kept hw
 ·refine(Any.strconv_ParseUint_10_at32_syntax_var laysPu s (by omega) h a b w h1).mono ?_
  rintro e w' ⟨N,rfl,hN,hc,hB⟩
  exact⟨0,_,rfl,fun _=>⟨_,_,rfl⟩,by simp,Below.to_kept hB⟩
 ·refine(Any.strconv_ParseUint_10_at32_range_var laysPu s (by omega) h c d w h2).mono ?_
  rintro e w' ⟨N,rfl,hN,hc,hB⟩
  exact⟨_,_,rfl,fun _=>⟨_,_,rfl⟩,by simp,Below.to_kept hB⟩
theorem parse64_any (s:ByteArray) (hs:s.size≤100) {w:World} (hg:Ge w):Calls Tryz.prog 167 #[.string s,.int .i64 10,.int .i64 64] w fun e w'=>∃u v,e=.returned (.tuple #[.int .u64 (u:Nat),v])∧(numB 64 s=none→∃t x,v=.iface t x)∧(∀n,numB 64 s=some n→u=n∧v=.nilIface)∧Kept (fun _=>False) w w':=by
 obtain⟨⟨a,b,h1⟩,⟨c,d,h2⟩⟩:=hg
 unfold numB
 rcases h:Lib.parseUintB 64 s.data.toList with u | _ | _
 ·refine(Any.strconv_ParseUint_10_at64_ok laysPu s (by omega) u h w).mono ?_
  rintro e w' ⟨rfl,hw⟩
  refine⟨u,_,rfl,by simp,by simp,?_⟩
  exact bytesW_kept hw
 ·refine(Any.strconv_ParseUint_10_at64_syntax_var laysPu s (by omega) h a b w h1).mono ?_
  rintro e w' ⟨N,rfl,hN,hc,hB⟩
  exact⟨0,_,rfl,fun _=>⟨_,_,rfl⟩,by simp,Below.to_kept hB⟩
 ·refine(Any.strconv_ParseUint_10_at64_range_var laysPu s (by omega) h c d w h2).mono ?_
  rintro e w' ⟨N,rfl,hN,hc,hB⟩
  exact⟨_,_,rfl,fun _=>⟨_,_,rfl⟩,by simp,Below.to_kept hB⟩
def numT (bits:Nat) (s:ByteArray):Option Nat:=if 1<s.size∧bt s 0=48 then none else numB bits s
def ParsesTo (bits:Nat):Prop:=∀(s:ByteArray) (_:s.size≤100) {w:World} (_:Ge w),Calls Tryz.prog 167 #[.string s,.int .i64 10,.int .i64 (bits:Nat)] w fun e w'=>∃u v,e=.returned (.tuple #[.int .u64 (u:Nat),v])∧(numB bits s=none→∃t x,v=.iface t x)∧(∀n,numB bits s=some n→u=n∧v=.nilIface)∧Kept (fun _=>False) w w'
set_option maxRecDepth 100000 in
set_option maxHeartbeats 800000 in
theorem number_zero {bits:Nat} (s:ByteArray) (h1:1<s.size) (h2:bt s 0=48) {w:World}:Calls Tryz.prog 162 #[.string s,.int .i64 (bits:Nat)] w fun e w'=>e=.returned (.tuple #[.int .u64 0,.bool false])∧Kept (fun _=>False) w w':=by
 have i0:(1:Int)<(s.size:Int):=by omega
 have i1:(0:Int)<(s.size:Int):=by omega
 have b0:bt s 0=s[0].toNat:=bt_eq (by omega)
 have b1:((s[0].toNat:Int)==48)=true:=by rw[←b0,h2];rfl
 clear h2 b0
 go_enter Tryz.func162,Tryz.ntmps162
 go_wp2
 go_ret2
 exact⟨rfl,Kept.refl _ _⟩
set_option maxRecDepth 100000 in
set_option maxHeartbeats 800000 in
theorem number_more {bits:Nat} (hp:ParsesTo bits) (s:ByteArray) (hs:s.size≤100) (hz:¬(1<s.size∧bt s 0=48)) {w:World} (hg:Ge w):Calls Tryz.prog 162 #[.string s,.int .i64 (bits:Nat)] w fun e w'=>∃u,e=.returned (.tuple #[.int .u64 (u:Nat),.bool (numB bits s).isSome])∧(∀n,numB bits s=some n→u=n)∧Kept (fun _=>False) w w':=by
 have HG:=hide hg
 have HP:=hide hp
 clear hg hp
 by_cases h1:1<s.size
 ·have i0:(1:Int)<(s.size:Int):=by omega
  have i1:(0:Int)<(s.size:Int):=by omega
  have b0:bt s 0=s[0].toNat:=bt_eq (by omega)
  have b1:((s[0].toNat:Int)==48)=false:=by
   have:¬bt s 0=48:=fun c=>hz ⟨h1,c⟩
   rw[b0] at this
   simp;omega
  clear hz b0
  go_enter Tryz.func162,Tryz.ntmps162
  go_wp2_with fail
  refine(HP.out s hs HG.out).mono ?_
  rintro e w1 ⟨u,v,rfl,hv1,hv2,hk⟩
  have HK:=hide hk
  clear hk
  cases hn:numB bits s with
  | none=>
   obtain⟨t,x,rfl⟩:=hv1 hn
   have HN:=hide hn
   clear hv1 hv2 hn
   go_wp2
   go_quiet (fail)
   go_wp2
   go_ret2
   exact⟨u,by rw[HN.out];rfl,(fun _ c=>by rw[HN.out] at c;cases c),HK.out.drewN _⟩
  | some n=>
   obtain⟨rfl,rfl⟩:=hv2 n hn
   have HN:=hide hn
   clear hv1 hv2 hn
   go_wp2
   go_quiet (fail)
   go_wp2
   go_ret2
   exact⟨_,by rw[HN.out];rfl,(fun _ c=>by rw[HN.out] at c;cases c;rfl),HK.out.drewN _⟩
 ·have i0:¬(1:Int)<(s.size:Int):=by omega
  go_enter Tryz.func162,Tryz.ntmps162
  go_wp2_with fail
  refine(HP.out s hs HG.out).mono ?_
  rintro e w1 ⟨u,v,rfl,hv1,hv2,hk⟩
  have HK:=hide hk
  clear hk
  cases hn:numB bits s with
  | none=>
   obtain⟨t,x,rfl⟩:=hv1 hn
   have HN:=hide hn
   clear hv1 hv2 hn
   go_wp2
   go_quiet (fail)
   go_wp2
   go_ret2
   exact⟨u,by rw[HN.out];rfl,(fun _ c=>by rw[HN.out] at c;cases c),HK.out.drewN _⟩
  | some n=>
   obtain⟨rfl,rfl⟩:=hv2 n hn
   have HN:=hide hn
   clear hv1 hv2 hn
   go_wp2
   go_quiet (fail)
   go_wp2
   go_ret2
   exact⟨_,by rw[HN.out];rfl,(fun _ c=>by rw[HN.out] at c;cases c;rfl),HK.out.drewN _⟩
theorem number_any {bits:Nat} (hp:ParsesTo bits) (s:ByteArray) (hs:s.size≤100) {w:World} (hg:Ge w):Calls Tryz.prog 162 #[.string s,.int .i64 (bits:Nat)] w fun e w'=>∃u,e=.returned (.tuple #[.int .u64 (u:Nat),.bool (numT bits s).isSome])∧(∀n,numT bits s=some n→u=n)∧Kept (fun _=>False) w w':=by
 unfold numT
 by_cases hz:1<s.size∧bt s 0=48
 ·refine(number_zero s hz.1 hz.2).mono ?_
  rintro e w' ⟨rfl,hk⟩
  rw[if_pos hz]
  exact⟨0,rfl,(fun _ c=>by cases c),hk⟩
 ·rw[if_neg hz]
  exact number_more hp s hs hz hg
end
section
open Go.RowKit
def setM (t:Tok) (a:ByteArray):Option Nat:=if hasPreB t.2.2 a=true∧t.1=5 then numT 32 (cutS t.2.2 a) else none
theorem setM_none {t:Tok} {a:ByteArray} (h:¬(hasPreB t.2.2 a=true∧t.1=5)):setM t a=none:=by unfold setM;rw[if_neg h]
theorem setM_some {t:Tok} {a:ByteArray} (h:hasPreB t.2.2 a=true∧t.1=5):setM t a=numT 32 (cutS t.2.2 a):=by unfold setM;rw[if_pos h]
set_option maxRecDepth 100000 in
set_option maxHeartbeats 800000 in
theorem setting_any (t:Tok) (a:ByteArray) (hz:t.2.2.size≤100) {w:World} (hg:Ge w):Calls Tryz.prog 161 #[tokV t,.string a] w fun e w'=>∃q:Int,e=.returned (.tuple #[.int .u32 q,.bool (setM t a).isSome])∧(∀n,setM t a=some n→q=IntKind.u32.wrap (n:Int))∧Kept (fun _=>False) w w':=by
 obtain⟨c,p,s⟩:=t
 have hz2:(cutS s a).size≤100:=by
  have:s.size≤100:=hz
  unfold cutS;split
  ·simp;omega
  ·exact this
 have HG:=hide hg
 rw[show tokV (c,p,s)=.agg #[.int .u8 (c:Nat),.int .i64 (p:Nat),.string s] from rfl]
 clear hz hg
 have hp32:ParsesTo 32:=parse32_any
 have HP:=hide hp32
 clear hp32
 go_enter Tryz.func161,Tryz.ntmps161
 go_wp2_with fail
 refine(strCut_any s a _).mono ?_
 rintro e w1 ⟨rfl,rfl⟩
 go_wp2_with fail
 refine(number_any HP.out (cutS s a) hz2 (HG.out.kept ((Kept.refl _ _).alloc _))).mono ?_
 rintro e w2 ⟨u,rfl,hu,hk⟩
 have hk0:Kept (fun _=>False) w w2:=((Kept.refl _ _).alloc _).trans hk
 have c0:w2.cell? ⟨w.heap.size,0,none⟩=some (.int .u8 (c:Nat)):=by
  rw[hk.cell (p:=⟨w.heap.size,0,none⟩) (by simp) (fun c=>c)];simp
 cases h1:hasPreB s a with
 | false=>
  have HB:Hid (setM (c,p,s) a=none):=setM_none (by simp[h1])
  have HK:=hide hk0
  clear hk hk0 hu h1
  go_wp2
  go_quiet (fail)
  go_wp2
  go_ret2
  exact⟨_,by rw[HB.out];rfl,(fun n c=>by rw[HB.out] at c;cases c),HK.out.drewN _⟩
 | true=>
  cases h2:numT 32 (cutS s a) with
  | none=>
   have HB:Hid (setM (c,p,s) a=none):=by
    show _=_
    unfold setM;split
    ·exact h2
    ·rfl
   have HK:=hide hk0
   clear hk hk0 hu h1 h2
   go_wp2
   go_quiet (fail)
   go_wp2
   go_ret2
   exact⟨_,by rw[HB.out];rfl,(fun n c=>by rw[HB.out] at c;cases c),HK.out.drewN _⟩
  | some n=>
   obtain rfl:=hu n h2
   by_cases hc:c=5
   ·have HB:Hid (setM (c,p,s) a=some u):=by
     show _=_
     rw[setM_some ⟨h1,hc⟩];exact h2
    have t1:((c:Int)==5)=true:=by simp[hc]
    have HK:=hide hk0
    clear hk hk0 hu h1 h2 hc
    go_wp2
    go_quiet (fail)
    go_wp2
    go_ret2
    exact⟨_,by rw[HB.out];rfl,(fun n c=>by rw[HB.out] at c;cases c;rfl),HK.out.drewN _⟩
   ·have HB:Hid (setM (c,p,s) a=none):=setM_none (by simp[hc])
    have t1:((c:Int)==5)=false:=by simp;omega
    have HK:=hide hk0
    clear hk hk0 hu h1 h2 hc
    go_wp2
    go_quiet (fail)
    go_wp2
    go_ret2
    exact⟨_,by rw[HB.out];rfl,(fun n c=>by rw[HB.out] at c;cases c),HK.out.drewN _⟩
end
section
open Go.RowKit
def uT (t:Tok):Option Nat:=setM t ⟨#[]⟩
set_option maxRecDepth 100000 in
theorem tU_any (t:Tok) (hz:t.2.2.size≤100) {w:World} (hg:Ge w):Calls Tryz.prog 152 #[tokV t] w fun e w'=>∃q:Int,e=.returned (.tuple #[.int .u32 q,.bool (uT t).isSome])∧(∀n,uT t=some n→q=IntKind.u32.wrap (n:Int))∧Kept (fun _=>False) w w':=by
 obtain⟨c,p,s⟩:=t
 have HG:=hide hg
 rw[show tokV (c,p,s)=.agg #[.int .u8 (c:Nat),.int .i64 (p:Nat),.string s] from rfl]
 have HZ:=hide hz
 clear hg hz
 go_enter Tryz.func152,Tryz.ntmps152
 go_wp2_with fail
 refine(setting_any (c,p,s) ⟨#[]⟩ HZ.out (HG.out.kept ((Kept.refl _ _).alloc _))).mono ?_
 rintro e w2 ⟨q,rfl,hu,hk⟩
 have HK:Hid (Kept (fun _=>False) w w2):=((Kept.refl _ _).alloc _).trans hk
 have HU:=hide hu
 clear hu hk
 go_wp2
 go_ret2
 exact⟨q,rfl,HU.out,HK.out⟩
def valS32 (x:Int):Int:=wrap64 (wrap64 x*4294967296) / 4294967296
def valS64 (x:Int):Int:=wrap64 (wrap64 x)
def sT32 (t:Tok):Option Int:=match numT 32 (cutS t.2.2 ⟨#[45]⟩) with
 | none=>none
 | some u=>if t.1=5 then(if hasPreB t.2.2 ⟨#[45]⟩=true then(if u≤2147483648 then some (valS32 (IntKind.u64.wrap (-(u:Int)))) else none) else some (valS32 u)) else none
def sT64 (t:Tok):Option Int:=match numT 64 (cutS t.2.2 ⟨#[45]⟩) with
 | none=>none
 | some u=>if t.1=5 then(if hasPreB t.2.2 ⟨#[45]⟩=true then(if u≤9223372036854775808 then some (valS64 (IntKind.u64.wrap (-(u:Int)))) else none) else some (valS64 u)) else none
set_option maxRecDepth 100000 in
set_option maxHeartbeats 1600000 in
theorem tS32_plus (t:Tok) (hz:t.2.2.size≤100) {w:World} (hg:Ge w) (hm:hasPreB t.2.2 ⟨#[45]⟩=false):Calls Tryz.prog 154 #[tokV t,.int .i64 32] w fun e w'=>∃q:Int,e=.returned (.tuple #[.int .i64 q,.bool (sT32 t).isSome])∧(∀n,sT32 t=some n→q=n)∧Kept (fun _=>False) w w':=by
 obtain⟨c,p,s⟩:=t
 have hz2:(cutS s ⟨#[45]⟩).size≤100:=by
  have:s.size≤100:=hz
  unfold cutS;split<;>first | exact this | (simp;omega)
 have HG:=hide hg
 rw[show tokV (c,p,s)=.agg #[.int .u8 (c:Nat),.int .i64 (p:Nat),.string s] from rfl]
 have hm':hasPreB s ⟨#[45]⟩=false:=hm
 have HM:=hide hm'
 clear hg hz hm hm'
 have hp:ParsesTo 32:=parse32_any
 have HP:=hide hp
 clear hp
 go_enter Tryz.func154,Tryz.ntmps154
 go_wp2_with fail
 refine(strCut_any s ⟨#[45]⟩ _).mono ?_
 rintro e w1 ⟨rfl,rfl⟩
 rw[HM.out]
 go_wp2_with fail
 refine(number_any HP.out (cutS s ⟨#[45]⟩) hz2 (HG.out.kept ((Kept.refl _ _).alloc _))).mono ?_
 rintro e w2 ⟨u,rfl,hu,hk⟩
 have hk0:Kept (fun _=>False) w w2:=((Kept.refl _ _).alloc _).trans hk
 have c0:w2.cell? ⟨w.heap.size,0,none⟩=some (.int .u8 (c:Nat)):=by
  rw[hk.cell (p:=⟨w.heap.size,0,none⟩) (by simp) (fun c=>c)];simp
 have HK:=hide hk0
 clear hk hk0
 cases h2:numT 32 (cutS s ⟨#[45]⟩) with
 | none=>
  have HB:Hid (sT32 (c,p,s)=none):=by show _=_;unfold sT32;rw[show(c,p,s).2.2=s from rfl,h2]
  clear hu h2
  go_wp2
  go_quiet (fail)
  go_wp2
  go_ret2
  exact⟨_,by rw[HB.out];rfl,(fun n c=>by rw[HB.out] at c;cases c),HK.out.drewN _⟩
 | some n=>
  obtain rfl:=hu n h2
  by_cases hc:c=5
  ·have t1:((c:Int)==5)=true:=by simp[hc]
   have HB:Hid (sT32 (c,p,s)=some (valS32 u)):=by show _=_;unfold sT32;rw[show(c,p,s).2.2=s from rfl,h2];simp[hc,HM.out]
   clear hu h2 hc
   go_wp2
   go_quiet (fail)
   go_wp2
   go_ret2
   exact⟨_,by rw[HB.out];rfl,(fun n c=>by rw[HB.out] at c;cases c;unfold valS32;rfl),HK.out.drewN _⟩
  ·have t1:((c:Int)==5)=false:=by simp;omega
   have HB:Hid (sT32 (c,p,s)=none):=by show _=_;unfold sT32;rw[show(c,p,s).2.2=s from rfl,h2];simp[hc]
   clear hu h2 hc
   go_wp2
   go_quiet (fail)
   go_wp2
   go_ret2
   exact⟨_,by rw[HB.out];rfl,(fun n c=>by rw[HB.out] at c;cases c),HK.out.drewN _⟩
set_option maxRecDepth 100000 in
set_option maxHeartbeats 1600000 in
theorem tS32_minus (t:Tok) (hz:t.2.2.size≤100) {w:World} (hg:Ge w) (hm:hasPreB t.2.2 ⟨#[45]⟩=true):Calls Tryz.prog 154 #[tokV t,.int .i64 32] w fun e w'=>∃q:Int,e=.returned (.tuple #[.int .i64 q,.bool (sT32 t).isSome])∧(∀n,sT32 t=some n→q=n)∧Kept (fun _=>False) w w':=by
 obtain⟨c,p,s⟩:=t
 have hz2:(cutS s ⟨#[45]⟩).size≤100:=by
  have:s.size≤100:=hz
  unfold cutS;split<;>first | exact this | (simp;omega)
 have HG:=hide hg
 rw[show tokV (c,p,s)=.agg #[.int .u8 (c:Nat),.int .i64 (p:Nat),.string s] from rfl]
 have hm':hasPreB s ⟨#[45]⟩=true:=hm
 have HM:=hide hm'
 clear hg hz hm hm'
 have hp:ParsesTo 32:=parse32_any
 have HP:=hide hp
 clear hp
 go_enter Tryz.func154,Tryz.ntmps154
 go_wp2_with fail
 refine(strCut_any s ⟨#[45]⟩ _).mono ?_
 rintro e w1 ⟨rfl,rfl⟩
 rw[HM.out]
 go_wp2_with fail
 refine(number_any HP.out (cutS s ⟨#[45]⟩) hz2 (HG.out.kept ((Kept.refl _ _).alloc _))).mono ?_
 rintro e w2 ⟨u,rfl,hu,hk⟩
 have hk0:Kept (fun _=>False) w w2:=((Kept.refl _ _).alloc _).trans hk
 have c0:w2.cell? ⟨w.heap.size,0,none⟩=some (.int .u8 (c:Nat)):=by
  rw[hk.cell (p:=⟨w.heap.size,0,none⟩) (by simp) (fun c=>c)];simp
 have HK:=hide hk0
 clear hk hk0
 cases h2:numT 32 (cutS s ⟨#[45]⟩) with
 | none=>
  have HB:Hid (sT32 (c,p,s)=none):=by show _=_;unfold sT32;rw[show(c,p,s).2.2=s from rfl,h2]
  clear hu h2
  go_wp2
  go_quiet (fail)
  go_wp2
  go_ret2
  exact⟨_,by rw[HB.out];rfl,(fun n c=>by rw[HB.out] at c;cases c),HK.out.drewN _⟩
 | some n=>
  obtain rfl:=hu n h2
  by_cases hle:u≤2147483648
  ·have t2:decide ((u:Int)≤2147483648)=true:=by simp;omega
   by_cases hc:c=5
   ·have t1:((c:Int)==5)=true:=by simp[hc]
    have HB:Hid (sT32 (c,p,s)=some (valS32 (IntKind.u64.wrap (-(u:Int))))):=by show _=_;unfold sT32;rw[show(c,p,s).2.2=s from rfl,h2];simp[hc,hle,HM.out]
    clear hu h2 hc hle
    go_wp2
    go_quiet (fail)
    go_wp2
    go_ret2
    exact⟨_,by rw[HB.out];rfl,(fun n c=>by rw[HB.out] at c;cases c;unfold valS32;rfl),HK.out.drewN _⟩
   ·have t1:((c:Int)==5)=false:=by simp;omega
    have HB:Hid (sT32 (c,p,s)=none):=by show _=_;unfold sT32;rw[show(c,p,s).2.2=s from rfl,h2];simp[hc]
    clear hu h2 hc
    go_wp2
    go_quiet (fail)
    go_wp2
    go_ret2
    exact⟨_,by rw[HB.out];rfl,(fun n c=>by rw[HB.out] at c;cases c),HK.out.drewN _⟩
  ·have t2:decide ((u:Int)≤2147483648)=false:=by simp;omega
   have hc:True:=trivial
   have HB:Hid (sT32 (c,p,s)=none):=by show _=_;unfold sT32;rw[show(c,p,s).2.2=s from rfl,h2];simp[hle,HM.out]
   clear hu h2 hc hle
   go_wp2
   go_quiet (fail)
   go_wp2
   go_ret2
   exact⟨_,by rw[HB.out];rfl,(fun n c=>by rw[HB.out] at c;cases c),HK.out.drewN _⟩
set_option maxRecDepth 100000 in
set_option maxHeartbeats 1600000 in
theorem tS64_plus (t:Tok) (hz:t.2.2.size≤100) {w:World} (hg:Ge w) (hm:hasPreB t.2.2 ⟨#[45]⟩=false):Calls Tryz.prog 154 #[tokV t,.int .i64 64] w fun e w'=>∃q:Int,e=.returned (.tuple #[.int .i64 q,.bool (sT64 t).isSome])∧(∀n,sT64 t=some n→q=n)∧Kept (fun _=>False) w w':=by
 obtain⟨c,p,s⟩:=t
 have hz2:(cutS s ⟨#[45]⟩).size≤100:=by
  have:s.size≤100:=hz
  unfold cutS;split<;>first | exact this | (simp;omega)
 have HG:=hide hg
 rw[show tokV (c,p,s)=.agg #[.int .u8 (c:Nat),.int .i64 (p:Nat),.string s] from rfl]
 have hm':hasPreB s ⟨#[45]⟩=false:=hm
 have HM:=hide hm'
 clear hg hz hm hm'
 have hp:ParsesTo 64:=parse64_any
 have HP:=hide hp
 clear hp
 go_enter Tryz.func154,Tryz.ntmps154
 go_wp2_with fail
 refine(strCut_any s ⟨#[45]⟩ _).mono ?_
 rintro e w1 ⟨rfl,rfl⟩
 rw[HM.out]
 go_wp2_with fail
 refine(number_any HP.out (cutS s ⟨#[45]⟩) hz2 (HG.out.kept ((Kept.refl _ _).alloc _))).mono ?_
 rintro e w2 ⟨u,rfl,hu,hk⟩
 have hk0:Kept (fun _=>False) w w2:=((Kept.refl _ _).alloc _).trans hk
 have c0:w2.cell? ⟨w.heap.size,0,none⟩=some (.int .u8 (c:Nat)):=by
  rw[hk.cell (p:=⟨w.heap.size,0,none⟩) (by simp) (fun c=>c)];simp
 have HK:=hide hk0
 clear hk hk0
 cases h2:numT 64 (cutS s ⟨#[45]⟩) with
 | none=>
  have HB:Hid (sT64 (c,p,s)=none):=by show _=_;unfold sT64;rw[show(c,p,s).2.2=s from rfl,h2]
  clear hu h2
  go_wp2
  go_quiet (fail)
  go_wp2
  go_ret2
  exact⟨_,by rw[HB.out];rfl,(fun n c=>by rw[HB.out] at c;cases c),HK.out.drewN _⟩
 | some n=>
  obtain rfl:=hu n h2
  by_cases hc:c=5
  ·have t1:((c:Int)==5)=true:=by simp[hc]
   have HB:Hid (sT64 (c,p,s)=some (valS64 u)):=by show _=_;unfold sT64;rw[show(c,p,s).2.2=s from rfl,h2];simp[hc,HM.out]
   clear hu h2 hc
   go_wp2
   go_quiet (fail)
   go_wp2
   go_ret2
   exact⟨_,by rw[HB.out];rfl,(fun n c=>by rw[HB.out] at c;cases c;unfold valS64;rfl),HK.out.drewN _⟩
  ·have t1:((c:Int)==5)=false:=by simp;omega
   have HB:Hid (sT64 (c,p,s)=none):=by show _=_;unfold sT64;rw[show(c,p,s).2.2=s from rfl,h2];simp[hc]
   clear hu h2 hc
   go_wp2
   go_quiet (fail)
   go_wp2
   go_ret2
   exact⟨_,by rw[HB.out];rfl,(fun n c=>by rw[HB.out] at c;cases c),HK.out.drewN _⟩
set_option maxRecDepth 100000 in
set_option maxHeartbeats 1600000 in
theorem tS64_minus (t:Tok) (hz:t.2.2.size≤100) {w:World} (hg:Ge w) (hm:hasPreB t.2.2 ⟨#[45]⟩=true):Calls Tryz.prog 154 #[tokV t,.int .i64 64] w fun e w'=>∃q:Int,e=.returned (.tuple #[.int .i64 q,.bool (sT64 t).isSome])∧(∀n,sT64 t=some n→q=n)∧Kept (fun _=>False) w w':=by
 obtain⟨c,p,s⟩:=t
 have hz2:(cutS s ⟨#[45]⟩).size≤100:=by
  have:s.size≤100:=hz
  unfold cutS;split<;>first | exact this | (simp;omega)
 have HG:=hide hg
 rw[show tokV (c,p,s)=.agg #[.int .u8 (c:Nat),.int .i64 (p:Nat),.string s] from rfl]
 have hm':hasPreB s ⟨#[45]⟩=true:=hm
 have HM:=hide hm'
 clear hg hz hm hm'
 have hp:ParsesTo 64:=parse64_any
 have HP:=hide hp
 clear hp
 go_enter Tryz.func154,Tryz.ntmps154
 go_wp2_with fail
 refine(strCut_any s ⟨#[45]⟩ _).mono ?_
 rintro e w1 ⟨rfl,rfl⟩
 rw[HM.out]
 go_wp2_with fail
 refine(number_any HP.out (cutS s ⟨#[45]⟩) hz2 (HG.out.kept ((Kept.refl _ _).alloc _))).mono ?_
 rintro e w2 ⟨u,rfl,hu,hk⟩
 have hk0:Kept (fun _=>False) w w2:=((Kept.refl _ _).alloc _).trans hk
 have c0:w2.cell? ⟨w.heap.size,0,none⟩=some (.int .u8 (c:Nat)):=by
  rw[hk.cell (p:=⟨w.heap.size,0,none⟩) (by simp) (fun c=>c)];simp
 have HK:=hide hk0
 clear hk hk0
 cases h2:numT 64 (cutS s ⟨#[45]⟩) with
 | none=>
  have HB:Hid (sT64 (c,p,s)=none):=by show _=_;unfold sT64;rw[show(c,p,s).2.2=s from rfl,h2]
  clear hu h2
  go_wp2
  go_quiet (fail)
  go_wp2
  go_ret2
  exact⟨_,by rw[HB.out];rfl,(fun n c=>by rw[HB.out] at c;cases c),HK.out.drewN _⟩
 | some n=>
  obtain rfl:=hu n h2
  by_cases hle:u≤9223372036854775808
  ·have t2:decide ((u:Int)≤9223372036854775808)=true:=by simp;omega
   by_cases hc:c=5
   ·have t1:((c:Int)==5)=true:=by simp[hc]
    have HB:Hid (sT64 (c,p,s)=some (valS64 (IntKind.u64.wrap (-(u:Int))))):=by show _=_;unfold sT64;rw[show(c,p,s).2.2=s from rfl,h2];simp[hc,hle,HM.out]
    clear hu h2 hc hle
    go_wp2
    go_quiet (fail)
    go_wp2
    go_ret2
    exact⟨_,by rw[HB.out];rfl,(fun n c=>by rw[HB.out] at c;cases c;unfold valS64;rfl),HK.out.drewN _⟩
   ·have t1:((c:Int)==5)=false:=by simp;omega
    have HB:Hid (sT64 (c,p,s)=none):=by show _=_;unfold sT64;rw[show(c,p,s).2.2=s from rfl,h2];simp[hc]
    clear hu h2 hc
    go_wp2
    go_quiet (fail)
    go_wp2
    go_ret2
    exact⟨_,by rw[HB.out];rfl,(fun n c=>by rw[HB.out] at c;cases c),HK.out.drewN _⟩
  ·have t2:decide ((u:Int)≤9223372036854775808)=false:=by simp;omega
   have hc:True:=trivial
   have HB:Hid (sT64 (c,p,s)=none):=by show _=_;unfold sT64;rw[show(c,p,s).2.2=s from rfl,h2];simp[hle,HM.out]
   clear hu h2 hc hle
   go_wp2
   go_quiet (fail)
   go_wp2
   go_ret2
   exact⟨_,by rw[HB.out];rfl,(fun n c=>by rw[HB.out] at c;cases c),HK.out.drewN _⟩
theorem tS32_any (t:Tok) (hz:t.2.2.size≤100) {w:World} (hg:Ge w):Calls Tryz.prog 154 #[tokV t,.int .i64 32] w fun e w'=>∃q:Int,e=.returned (.tuple #[.int .i64 q,.bool (sT32 t).isSome])∧(∀n,sT32 t=some n→q=n)∧Kept (fun _=>False) w w':=by
 cases hm:hasPreB t.2.2 ⟨#[45]⟩ with
 | false=>exact tS32_plus t hz hg hm
 | true=>exact tS32_minus t hz hg hm
theorem tS64_any (t:Tok) (hz:t.2.2.size≤100) {w:World} (hg:Ge w):Calls Tryz.prog 154 #[tokV t,.int .i64 64] w fun e w'=>∃q:Int,e=.returned (.tuple #[.int .i64 q,.bool (sT64 t).isSome])∧(∀n,sT64 t=some n→q=n)∧Kept (fun _=>False) w w':=by
 cases hm:hasPreB t.2.2 ⟨#[45]⟩ with
 | false=>exact tS64_plus t hz hg hm
 | true=>exact tS64_minus t hz hg hm
end
section
open Go.RowKit
def nameB (t:ByteArray):Bool:=(tl t 0).all inNameB&&t.size !=0&&decide (t.size≤20)
set_option maxHeartbeats 800000 in
theorem nameable_all (t:ByteArray) (w:World) (ht:t.size≤100):Calls Tryz.prog 143 #[.string t] w fun e w'=>e=.returned (.bool (nameB t))∧w'=w:=by
 have hnot:∀(x:Bool) (w:World),(Op.unary .not (.bool x)).run Tryz.prog w=.ok (.bool (!x)) w:=fun _ _=>rfl
 go_enter Tryz.func143,Tryz.ntmps143
 go_wp2
 go_loop [3,6] (fun _ q=>∃k:Nat,k≤t.size∧q=.int .i64 k∧(tl t 0).all inNameB=(tl t k).all inNameB) (fun _ q=>t.size - (intOf q).toNat)
 case atStart=>exact⟨0,Nat.zero_le _,rfl,rfl⟩
 case round=>
  obtain⟨k,hk,rfl,ha⟩:=hrel
  have HA:=hide ha
  clear ha
  by_cases hlt:k<t.size
  ·have hlt':(k:Int)<(t.size:Int):=by omega
   cases hx:inNameB t[k].toNat with
   | true=>
    have HN:=hide (HA.out.trans (all_yes hlt hx))
    have HX:=hide hx
    clear hx
    go_wp2_with fail
    refine(inName_any _ _).mono ?_
    rintro e w3 ⟨rfl,rfl⟩
    rw[HX.out]
    go_wp2
    go_round
    case rel=>exact⟨k+1,by omega,by go_num,HN.out⟩
    case measure=>simp[intOf];omega
   | false=>
    have HN:=hide (HA.out.trans (all_no hlt hx))
    have HX:=hide hx
    clear hx
    go_wp2_with fail
    refine(inName_any _ _).mono ?_
    rintro e w3 ⟨rfl,rfl⟩
    rw[HX.out]
    go_wp2
    go_ret
    exact⟨by simp[nameB,HN.out],rfl⟩
  ·have HN:Hid ((tl t 0).all inNameB=true):=HA.out.trans (by rw[tl_end (by omega)];rfl)
   by_cases h0:t.size=0
   ·have HB:Hid (nameB t=false):=by show _=_;simp[nameB,h0]
    have e0:t={data:= #[]}:=by
     have:t.data.size=0:=h0
     cases t;rename_i d;congr;exact Array.eq_empty_of_size_eq_zero this
    subst e0
    go_wp2
    go_ret
    exact⟨by rw[HB.out];rfl,rfl⟩
   ·have hne:(t.toList.isEmpty)=false:=by
     rw[ByteArray.toList_eq]
     cases hd:t.data.toList with
     | nil=>exact absurd (show t.data.size=0 by rw[←Array.length_toList,hd];rfl) h0
     | cons a l=>rfl
    by_cases h20:t.size≤20
    ·have HB:Hid (nameB t=true):=by show _=_;unfold nameB;rw[HN.out];simp[h0,h20]
     have hle:(t.size:Int)≤20:=by omega
     go_wp2
     go_ret
     exact⟨by rw[HB.out];rfl,rfl⟩
    ·have HB:Hid (nameB t=false):=by show _=_;unfold nameB;simp[h20]
     have hle:decide ((t.size:Int)≤20)=false:=by simp;omega
     go_wp2
     go_ret
     exact⟨by rw[HB.out];rfl,rfl⟩
def idA (t:Tok):Bool:=hasPreB t.2.2 ⟨#[36]⟩&&t.1==5&&nameB (idRest t)
theorem tID_all (t:Tok) (hz:t.2.2.size≤100) (w:World):Calls Tryz.prog 129 #[tokV t] w fun e w'=>∃x,e=.returned (.tuple #[.string x,.bool (idA t)])∧(idA t=true→x=idRest t)∧Kept (fun _=>False) w w':=by
 obtain⟨c,p,s⟩:=t
 have hzr:(idRest (c,p,s)).size≤100:=by simp[idRest] at hz ⊢;omega
 have HI:Hid (idA (c,p,s)=(hasPreB s ⟨#[36]⟩&&c==5&&nameB (idRest (c,p,s)))):=rfl
 have HE:Hid (idRest (c,p,s)=s.extract (⟨#[36]⟩:ByteArray).size s.size):=rfl
 generalize idA (c,p,s)=b at*
 generalize idRest (c,p,s)=x at*
 rw[show tokV (c,p,s)=.agg #[.int .u8 (c:Nat),.int .i64 (p:Nat),.string s] from rfl]
 clear hz
 go_enter Tryz.func129,Tryz.ntmps129
 go_wp2_with fail
 refine(strCut_any s ⟨#[36]⟩ _).mono ?_
 rintro e w1 ⟨rfl,rfl⟩
 cases h:hasPreB s ⟨#[36]⟩ with
 | false=>
  rw[show cutS s ⟨#[36]⟩=s by simp[cutS,h]]
  have HB:Hid (b=false):=by show _=_;rw[HI.out,h];rfl
  go_wp2
  go_ret2
  refine⟨_,by rw[HB.out];rfl,fun c=>?_,(Kept.refl _ _).alloc _⟩
  rw[HB.out] at c;cases c
 | true=>
  rw[show cutS s ⟨#[36]⟩=x by rw[HE.out];simp[cutS,h]]
  by_cases hc:c=5
  ·have t1:((c:Int)==5)=true:=by simp[hc]
   have HB:Hid (b=nameB x):=by show _=_;rw[HI.out,h,hc];simp
   clear hc
   go_wp2_with fail
   refine(nameable_all x _ hzr).mono ?_
   rintro e w2 ⟨rfl,rfl⟩
   go_wp2
   go_ret2
   exact⟨_,by rw[HB.out];rfl,fun c=>rfl,(Kept.refl _ _).alloc _⟩
  ·have t1:((c:Int)==5)=false:=by simp;omega
   have HB:Hid (b=false):=by
    show _=_
    rw[HI.out,h,show(c==5)=false by simp[hc]];rfl
   clear hc
   go_wp2
   go_ret2
   exact⟨_,by rw[HB.out];rfl,fun c=>rfl,(Kept.refl _ _).alloc _⟩
end
section
open Go.RowKit
theorem numB_lt {b:Nat} {s:ByteArray} {n:Nat} (h:numB b s=some n):n≤2 ^ b - 1:=by
 unfold numB at h
 split at h
 ·cases h;exact Lib.parseUintB_le (by assumption)
 ·cases h
theorem uT_lt {t:Tok} {n:Nat} (h:uT t=some n):n≤4294967295:=by
 unfold uT setM at h
 split at h
 ·unfold numT at h
  split at h
  ·cases h
  ·exact numB_lt (b:=32) h
 ·cases h
theorem wrap_u32 {n:Nat} (h:n≤4294967295):IntKind.u32.wrap (n:Int)=(n:Int):=by
 simp[IntKind.wrap,IntKind.bits,IntKind.signed];omega
def numberM (T:List Tok) (i:Nat):Except Err (Nat×Nat):=match takeT T 5 i with
 | .ok (t,j)=>(match uT t with | some n=>.ok (n,j) | none=>.error (7,t.2.1))
 | .error e=>.error e
def kindT (T:List Tok) (i:Nat):Except Err (Nat×Nat):=match takeT T 5 i with
 | .ok (t,j)=>if kindB t.2.2=0 then .error (7,t.2.1) else .ok (kindB t.2.2,j)
 | .error e=>.error e
def signedM (b:Nat) (T:List Tok) (i:Nat):Except Err (Int×Nat):=match takeT T 5 i with
 | .ok (t,j)=>(match(if b=32 then sT32 t else sT64 t) with | some n=>.ok (n,j) | none=>.error (7,t.2.1))
 | .error e=>.error e
section
variable {w0 w:World} {ab tg cap i:Nat} {T:List Tok} {z:List Value} {r:List It} {t t2:Tok}
set_option maxRecDepth 100000 in
set_option maxHeartbeats 800000 in
theorem asNumber_all (h:Sx w0 w (AL ab tg cap T i z r)) (hg:Ge w0) (ht:T[i]?=some t) (hl:T.length≤100000) (hz:t.2.2.size≤100):
  Calls Tryz.prog 138 #[.pointer (some ⟨ab,0,none⟩)] w (OutX w0 (numberM T i) fun x=>Ans w0 (.agg #[.int .u32 (x.1:Nat),.int .i64 0]) (AL ab tg cap T x.2 z r)):=by
 have hnot:∀(x:Bool) (w:World),(Op.unary .not (.bool x)).run Tryz.prog w=.ok (.bool (!x)) w:=fun _ _=>rfl
 have HT:=hide ht
 have HG:=hide hg
 have HZ:=hide hz
 have hsh:Sx w0 (w.alloc (.cells #[.int .u32 0,.int .i64 0] 66)) (AL ab tg cap T i z (r++[.b w.heap.size [.int .u32 0,.int .i64 0]])):=h.new #[.int .u32 0,.int .i64 0] 66
 by_cases h5:t.1=5
 ·have HM:=hide (takeT_ok ht h5)
  have H5:=hide h5
  have H:=hide hsh
  clear h ht hg hz h5 hsh
  go_enter Tryz.func138,Tryz.ntmps138
  go_wp2_with fail
  refine(tTake_any H.out HT.out hl (by rw[H5.out];rfl)).mono ?_
  rintro e w1 ⟨rfl,h1⟩
  generalize w.heap.size=rb at*
  obtain⟨c,p,s⟩:=t
  rw[show tokV (c,p,s)=.agg #[.int .u8 (c:Nat),.int .i64 (p:Nat),.string s] from rfl]
  have h2:Sx w0 (w1.alloc (.cells #[.int .u8 (c:Nat),.int .i64 (p:Nat),.string s] 144)) (AL ab tg cap T (nx T i) z (r++[.b rb [.int .u32 0,.int .i64 0]]++[.b w1.heap.size [.int .u8 (c:Nat),.int .i64 (p:Nat),.string s]])):=h1.new #[.int .u8 (c:Nat),.int .i64 (p:Nat),.string s] 144
  have H2:=hide h2
  clear h1 H h2
  go_wp2_with fail
  refine(tU_any (c,p,s) HZ.out (HG.out.kept H2.out.kept)).mono ?_
  rintro e w2 ⟨q,rfl,hu,hk⟩
  have h3:=H2.out.to hk
  rw[AL.app,AL.app] at h3
  obtain⟨a0,-⟩:=h3.cL 0
  obtain⟨a1,-⟩:=h3.cL 1
  obtain⟨a2,-⟩:=h3.cL 2
  cases hn:uT (c,p,s) with
  | none=>
   have HM':Hid (numberM T i=.error (7,p)):=by show _=_;unfold numberM;rw[HM.out];simp only[hn]
   have HK:=hide h3.kept
   clear hu hk hn H2 h3
   go_wp2_with fail
   refine(tkRefuse_any (c,p,s) _).mono ?_
   rintro e w4 ⟨rfl,k4⟩
   exact⟨rfl,OutX.err_mk HM'.out ⟨rfl,HK.out.trans k4⟩⟩
  | some n=>
   have HM':Hid (numberM T i=.ok (n,nx T i)):=by show _=_;unfold numberM;rw[HM.out];simp only[hn]
   have hq:q=(n:Int):=by rw[hu n hn,wrap_u32 (uT_lt hn)]
   subst hq
   obtain⟨b0,d0⟩:=h3.cM 0
   obtain⟨b1,d1⟩:=h3.cM 1
   have hrb:=h3.left.ltL
   have h4:=(h3.setM 0 (.int .u32 (n:Int))).setM 1 (.int .i64 0)
   obtain⟨y0,-⟩:=h4.cM 0
   obtain⟨y1,-⟩:=h4.cM 1
   have H4:=hide h4.left.left
   clear hu hk hn H2 h3 h4
   go_wp2
   refine bodyPost_ret (v:=.agg #[.int .u32 (n:Nat),.int .i64 0]) ?_ rfl ?_
   ·simp[results,Tryz.results138,go_sem,y0,y1]
   ·exact OutX.ok_mk HM'.out ⟨rfl,H4.out⟩
 ·have HM:Hid (numberM T i=.error (7,t.2.1)):=by show _=_;unfold numberM;rw[takeT_err ht h5]
  have H5:=hide h5
  have H:=hide hsh
  clear h ht hg hz h5 hsh
  go_enter Tryz.func138,Tryz.ntmps138
  go_wp2_with fail
  refine(tTake_bad H.out HT.out (q:=5) H5.out).mono ?_
  rintro e w1 ⟨rfl,hk⟩
  exact⟨rfl,OutX.err_mk HM.out ⟨rfl,hk⟩⟩
set_option maxRecDepth 100000 in
set_option maxHeartbeats 800000 in
theorem asKind_all (h:Sx w0 w (AL ab tg cap T i z r)) (ht:T[i]?=some t) (hl:T.length≤100000):
  Calls Tryz.prog 119 #[.pointer (some ⟨ab,0,none⟩)] w (OutX w0 (kindT T i) fun x=>Ans w0 (.int .u8 (x.1:Nat)) (AL ab tg cap T x.2 z r)):=by
 by_cases h5:t.1=5
 ·by_cases h0:kindB t.2.2=0
  ·have HM:Hid (kindT T i=.error (7,t.2.1)):=by show _=_;unfold kindT;rw[takeT_ok ht h5];simp[h0]
   have H:=hide h
   have HT:=hide ht
   have H5:=hide h5
   have HK:=hide h0
   clear h ht h5 h0
   go_enter Tryz.func119,Tryz.ntmps119
   go_wp2_with fail
   refine(tTake_any H.out HT.out hl (by rw[H5.out];rfl)).mono ?_
   rintro e w1 ⟨rfl,h1⟩
   obtain⟨c,p,s⟩:=t
   rw[show tokV (c,p,s)=.agg #[.int .u8 (c:Nat),.int .i64 (p:Nat),.string s] from rfl]
   have h2:=h1.new #[.int .u8 (c:Nat),.int .i64 (p:Nat),.string s] 144
   obtain⟨a0,-⟩:=h2.cL 0
   obtain⟨a1,-⟩:=h2.cL 1
   obtain⟨a2,-⟩:=h2.cL 2
   have H1:=hide h2
   clear h1 h2
   go_wp2_with fail
   refine(kindOf_any s _).mono ?_
   rintro e w2 ⟨rfl,rfl⟩
   rw[show kindB s=0 from HK.out]
   go_wp2_with fail
   refine(tkRefuse_any (c,p,s) _).mono ?_
   rintro e w4 ⟨rfl,k4⟩
   exact⟨rfl,OutX.err_mk HM.out ⟨rfl,H1.out.kept.trans k4⟩⟩
  ·exact(asKind_any h ht hl h5 rfl h0).mono fun e w' hh=>OutX.ok_mk (x:=(kindB t.2.2,nx T i)) (by unfold kindT;rw[takeT_ok ht h5];simp[h0]) hh
 ·have HM:Hid (kindT T i=.error (7,t.2.1)):=by show _=_;unfold kindT;rw[takeT_err ht h5]
  have H5:=hide h5
  have H:=hide h
  have HT:=hide ht
  clear h ht h5
  go_enter Tryz.func119,Tryz.ntmps119
  go_wp2_with fail
  refine(tTake_bad H.out HT.out (q:=5) H5.out).mono ?_
  rintro e w1 ⟨rfl,hk⟩
  exact⟨rfl,OutX.err_mk HM.out ⟨rfl,hk⟩⟩
end
end
section
open Go.RowKit
section
variable {w0 w:World} {ab tg cap i:Nat} {T:List Tok} {z:List Value} {r:List It} {t t2:Tok}
set_option maxRecDepth 100000 in
set_option maxHeartbeats 800000 in
theorem asSigned32_all (h:Sx w0 w (AL ab tg cap T i z r)) (hg:Ge w0) (ht:T[i]?=some t) (hl:T.length≤100000) (hz:t.2.2.size≤100):
  Calls Tryz.prog 140 #[.pointer (some ⟨ab,0,none⟩),.int .i64 32] w (OutX w0 (signedM 32 T i) fun x=>Ans w0 (.int .i64 x.1) (AL ab tg cap T x.2 z r)):=by
 have hnot:∀(x:Bool) (w:World),(Op.unary .not (.bool x)).run Tryz.prog w=.ok (.bool (!x)) w:=fun _ _=>rfl
 have HT:=hide ht
 have HG:=hide hg
 have HZ:=hide hz
 by_cases h5:t.1=5
 ·have HM:=hide (takeT_ok ht h5)
  have H5:=hide h5
  have H:=hide h
  clear h ht hg hz h5
  go_enter Tryz.func140,Tryz.ntmps140
  go_wp2_with fail
  refine(tTake_any H.out HT.out hl (by rw[H5.out];rfl)).mono ?_
  rintro e w1 ⟨rfl,h1⟩
  obtain⟨c,p,s⟩:=t
  rw[show tokV (c,p,s)=.agg #[.int .u8 (c:Nat),.int .i64 (p:Nat),.string s] from rfl]
  have H2:=hide (h1.new #[.int .u8 (c:Nat),.int .i64 (p:Nat),.string s] 144)
  clear h1 H
  go_wp2_with fail
  refine(tS32_any (c,p,s) HZ.out (HG.out.kept H2.out.kept)).mono ?_
  rintro e w2 ⟨q,rfl,hu,hk⟩
  have h3:=H2.out.to hk
  obtain⟨a0,-⟩:=h3.cL 0
  obtain⟨a1,-⟩:=h3.cL 1
  obtain⟨a2,-⟩:=h3.cL 2
  cases hn:sT32 (c,p,s) with
  | none=>
   have HM':Hid (signedM 32 T i=.error (7,p)):=by show _=_;unfold signedM;rw[HM.out];simp[hn]
   have HK:=hide h3.kept
   clear hu hk hn H2 h3
   go_wp2_with fail
   refine(tkRefuse_any (c,p,s) _).mono ?_
   rintro e w4 ⟨rfl,k4⟩
   exact⟨rfl,OutX.err_mk HM'.out ⟨rfl,HK.out.trans k4⟩⟩
  | some n=>
   have HM':Hid (signedM 32 T i=.ok (n,nx T i)):=by show _=_;unfold signedM;rw[HM.out];simp[hn]
   obtain rfl:=hu n hn
   have H4:=hide h3.left
   clear hu hk hn H2 h3
   go_wp2
   go_ret
   exact OutX.ok_mk HM'.out ⟨rfl,H4.out⟩
 ·have HM:Hid (signedM 32 T i=.error (7,t.2.1)):=by show _=_;unfold signedM;rw[takeT_err ht h5]
  have H5:=hide h5
  have H:=hide h
  clear h ht hg hz h5
  go_enter Tryz.func140,Tryz.ntmps140
  go_wp2_with fail
  refine(tTake_bad H.out HT.out (q:=5) H5.out).mono ?_
  rintro e w1 ⟨rfl,hk⟩
  exact⟨rfl,OutX.err_mk HM.out ⟨rfl,hk⟩⟩
set_option maxRecDepth 100000 in
set_option maxHeartbeats 800000 in
theorem asSigned64_all (h:Sx w0 w (AL ab tg cap T i z r)) (hg:Ge w0) (ht:T[i]?=some t) (hl:T.length≤100000) (hz:t.2.2.size≤100):
  Calls Tryz.prog 140 #[.pointer (some ⟨ab,0,none⟩),.int .i64 64] w (OutX w0 (signedM 64 T i) fun x=>Ans w0 (.int .i64 x.1) (AL ab tg cap T x.2 z r)):=by
 have hnot:∀(x:Bool) (w:World),(Op.unary .not (.bool x)).run Tryz.prog w=.ok (.bool (!x)) w:=fun _ _=>rfl
 have HT:=hide ht
 have HG:=hide hg
 have HZ:=hide hz
 by_cases h5:t.1=5
 ·have HM:=hide (takeT_ok ht h5)
  have H5:=hide h5
  have H:=hide h
  clear h ht hg hz h5
  go_enter Tryz.func140,Tryz.ntmps140
  go_wp2_with fail
  refine(tTake_any H.out HT.out hl (by rw[H5.out];rfl)).mono ?_
  rintro e w1 ⟨rfl,h1⟩
  obtain⟨c,p,s⟩:=t
  rw[show tokV (c,p,s)=.agg #[.int .u8 (c:Nat),.int .i64 (p:Nat),.string s] from rfl]
  have H2:=hide (h1.new #[.int .u8 (c:Nat),.int .i64 (p:Nat),.string s] 144)
  clear h1 H
  go_wp2_with fail
  refine(tS64_any (c,p,s) HZ.out (HG.out.kept H2.out.kept)).mono ?_
  rintro e w2 ⟨q,rfl,hu,hk⟩
  have h3:=H2.out.to hk
  obtain⟨a0,-⟩:=h3.cL 0
  obtain⟨a1,-⟩:=h3.cL 1
  obtain⟨a2,-⟩:=h3.cL 2
  cases hn:sT64 (c,p,s) with
  | none=>
   have HM':Hid (signedM 64 T i=.error (7,p)):=by show _=_;unfold signedM;rw[HM.out];simp[hn]
   have HK:=hide h3.kept
   clear hu hk hn H2 h3
   go_wp2_with fail
   refine(tkRefuse_any (c,p,s) _).mono ?_
   rintro e w4 ⟨rfl,k4⟩
   exact⟨rfl,OutX.err_mk HM'.out ⟨rfl,HK.out.trans k4⟩⟩
  | some n=>
   have HM':Hid (signedM 64 T i=.ok (n,nx T i)):=by show _=_;unfold signedM;rw[HM.out];simp[hn]
   obtain rfl:=hu n hn
   have H4:=hide h3.left
   clear hu hk hn H2 h3
   go_wp2
   go_ret
   exact OutX.ok_mk HM'.out ⟨rfl,H4.out⟩
 ·have HM:Hid (signedM 64 T i=.error (7,t.2.1)):=by show _=_;unfold signedM;rw[takeT_err ht h5]
  have H5:=hide h5
  have H:=hide h
  clear h ht hg hz h5
  go_enter Tryz.func140,Tryz.ntmps140
  go_wp2_with fail
  refine(tTake_bad H.out HT.out (q:=5) H5.out).mono ?_
  rintro e w1 ⟨rfl,hk⟩
  exact⟨rfl,OutX.err_mk HM.out ⟨rfl,hk⟩⟩
def limitsM (T:List Tok) (i:Nat):Except Err (Lim×Nat):=match numberM T i with
 | .error e=>.error e
 | .ok (a,j)=>(match T[j]? with
  | none=>.error (0,0)
  | some t=>if t.1=5 then(match numberM T j with | .ok (b,k)=>.ok (⟨0,a,b,true⟩,k) | .error e=>.error e) else .ok (⟨0,a,0,false⟩,j))
theorem numberM_nx {j n:Nat} (h:numberM T i=.ok (n,j)):j=nx T i:=by
 unfold numberM takeT at h
 split at h
 ·rename_i t j' h'
  split at h'
  ·split at h'
   ·cases h'
    split at h
    ·cases h;rfl
    ·cases h
   ·cases h'
  ·cases h'
 ·cases h
set_option maxRecDepth 100000 in
set_option maxHeartbeats 1600000 in
theorem asLimits_all (h:Sx w0 w (AL ab tg cap T i z r)) (hg:Ge w0) (hi:i<T.length) (hl:T.length≤100000) (hz:∀t∈T,t.2.2.size≤100):
  Calls Tryz.prog 118 #[.pointer (some ⟨ab,0,none⟩)] w (OutX w0 (limitsM T i) fun x=>Ans w0 (.agg #[.int .i64 0,.int .u32 x.1.least,.int .u32 x.1.most,.bool x.1.has]) (AL ab tg cap T x.2 z r)):=by
 obtain⟨t,ht⟩:∃t,T[i]?=some t:=⟨_,List.getElem?_eq_getElem hi⟩
 obtain⟨t2,ht2⟩:∃t,T[nx T i]?=some t:=⟨_,List.getElem?_eq_getElem (nx_ok hi)⟩
 have HT:=hide ht
 have HT2:=hide ht2
 have HG:=hide hg
 have hz1:=hz t (List.mem_of_getElem? ht)
 have hz2:=hz t2 (List.mem_of_getElem? ht2)
 have hf:=tokF
 have hfld:∀(a b:Value) (w:World),(Instr.field 66 (.agg #[a,b]) 0).run Tryz.prog w=.ok a w:=fun a b w=>by kernel_rfl
 have H:=hide (h.new #[.int .i64 0,.int .u32 0,.int .u32 0,.bool false] 70)
 clear h hg hz ht ht2
 go_enter Tryz.func118,Tryz.ntmps118
 go_wp2_with fail
 refine(asNumber_all (r:=r++[.b w.heap.size [.int .i64 0,.int .u32 0,.int .u32 0,.bool false]]) H.out HG.out HT.out hl hz1).mono ?_
 intro e w1 h1
 generalize w.heap.size=rb at*
 cases hn:numberM T i with
 | error q=>
  rw[hn] at h1
  obtain⟨rfl,hk⟩:=h1
  exact⟨rfl,OutX.err_mk (by unfold limitsM;rw[hn]) ⟨rfl,hk⟩⟩
 | ok x=>
  obtain⟨a,j⟩:=x
  have hj:=numberM_nx hn
  subst hj
  rw[hn] at h1
  obtain⟨rfl,h1⟩:=h1
  simp only at h1 ⊢
  have H1:=hide h1
  clear h1 H
  go_wp2_with fail
  have h2:Sx w0 (w1.alloc (.cells #[.int .i64 0,.int .u32 (a:Nat),.int .u32 0,.bool false] 70)) (AL ab tg cap T (nx T i) z (r++[.b rb [.int .i64 0,.int .u32 0,.int .u32 0,.bool false]]++[.b w1.heap.size [.int .i64 0,.int .u32 (a:Nat),.int .u32 0,.bool false]])):=H1.out.new #[.int .i64 0,.int .u32 (a:Nat),.int .u32 0,.bool false] 70
  refine(tPeek_any h2 HT2.out).mono ?_
  rintro e w2 ⟨rfl,h3⟩
  generalize w1.heap.size=lb at*
  clear h2 H1
  obtain⟨c,p,s⟩:=t2
  rw[show tokV (c,p,s)=.agg #[.int .u8 (c:Nat),.int .i64 (p:Nat),.string s] from rfl]
  by_cases h5:c=5
  ·have t1:((c:Int)==5)=true:=by simp[h5]
   have HN:=hide hn
   have H5:=hide h5
   have H3:=hide h3
   clear hn h5 h3
   go_wp2_with fail
   refine(asNumber_all H3.out HG.out HT2.out hl hz2).mono ?_
   intro e w3 h4
   cases hn2:numberM T (nx T i) with
   | error q=>
    rw[hn2] at h4
    obtain⟨rfl,hk⟩:=h4
    exact⟨rfl,OutX.err_mk (by unfold limitsM;rw[HN.out];simp only[HT2.out,H5.out,if_true,hn2]) ⟨rfl,hk⟩⟩
   | ok x=>
    obtain⟨b,j⟩:=x
    rw[hn2] at h4
    obtain⟨rfl,h4⟩:=h4
    have HM:Hid (limitsM T i=.ok (⟨0,a,b,true⟩,j)):=by show _=_;unfold limitsM;rw[HN.out];simp only[HT2.out,H5.out,if_true,hn2]
    simp only at h4 ⊢
    rw[AL.app,AL.app] at h4
    obtain⟨a0,e0⟩:=h4.cL 0
    obtain⟨a1,e1⟩:=h4.cL 1
    obtain⟨a2,e2⟩:=h4.cL 2
    obtain⟨a3,e3⟩:=h4.cL 3
    have hlb:=h4.ltL
    have h5:=(h4.setL 3 (.bool true)).setL 2 (.int .u32 (b:Nat))
    obtain⟨f0,-⟩:=h5.cL 0
    obtain⟨f1,-⟩:=h5.cL 1
    obtain⟨f2,-⟩:=h5.cL 2
    obtain⟨f3,-⟩:=h5.cL 3
    obtain⟨b0,d0⟩:=h5.cM 0
    obtain⟨b1,d1⟩:=h5.cM 1
    obtain⟨b2,d2⟩:=h5.cM 2
    obtain⟨b3,d3⟩:=h5.cM 3
    have hrb:=h5.left.ltL
    have h6:=(((h5.setM 0 (.int .i64 0)).setM 1 (.int .u32 (a:Nat))).setM 2 (.int .u32 (b:Nat))).setM 3 (.bool true)
    obtain⟨y0,-⟩:=h6.cM 0
    obtain⟨y1,-⟩:=h6.cM 1
    obtain⟨y2,-⟩:=h6.cM 2
    obtain⟨y3,-⟩:=h6.cM 3
    have H6:=hide h6.left.left
    clear h4 h5 h6 hn2 H3
    go_wp2
    refine bodyPost_ret (v:=.agg #[.int .i64 0,.int .u32 (a:Nat),.int .u32 (b:Nat),.bool true]) ?_ rfl ?_
    ·simp[results,Tryz.results118,go_sem,y0,y1,y2,y3]
    ·exact OutX.ok_mk HM.out ⟨rfl,H6.out⟩
  ·have t1:((c:Int)==5)=false:=by simp;omega
   have HM:Hid (limitsM T i=.ok (⟨0,a,0,false⟩,nx T i)):=by show _=_;unfold limitsM;rw[hn];simp only[HT2.out,h5,if_false]
   rw[AL.app,AL.app] at h3
   obtain⟨f0,-⟩:=h3.cL 0
   obtain⟨f1,-⟩:=h3.cL 1
   obtain⟨f2,-⟩:=h3.cL 2
   obtain⟨f3,-⟩:=h3.cL 3
   obtain⟨b0,d0⟩:=h3.cM 0
   obtain⟨b1,d1⟩:=h3.cM 1
   obtain⟨b2,d2⟩:=h3.cM 2
   obtain⟨b3,d3⟩:=h3.cM 3
   have hrb:=h3.left.ltL
   have h6:=(((h3.setM 0 (.int .i64 0)).setM 1 (.int .u32 (a:Nat))).setM 2 (.int .u32 0)).setM 3 (.bool false)
   obtain⟨y0,-⟩:=h6.cM 0
   obtain⟨y1,-⟩:=h6.cM 1
   obtain⟨y2,-⟩:=h6.cM 2
   obtain⟨y3,-⟩:=h6.cM 3
   have H6:=hide h6.left.left
   clear h3 h6 hn h5
   go_wp2
   refine bodyPost_ret (v:=.agg #[.int .i64 0,.int .u32 (a:Nat),.int .u32 0,.bool false]) ?_ rfl ?_
   ·simp[results,Tryz.results118,go_sem,y0,y1,y2,y3]
   ·exact OutX.ok_mk HM.out ⟨rfl,H6.out⟩
end
end
section
open Go.RowKit
section
variable {w0 w:World} {ab tg cap i:Nat} {T:List Tok} {z:List Value} {r:List It} {t t2:Tok}
set_option maxRecDepth 100000 in
set_option maxHeartbeats 1600000 in
theorem asIndex_idA (h:Sx w0 w (AL ab tg cap T i z r)) (ht:T[i]?=some t) (hl:T.length≤100000) (hz:t.2.2.size≤100) (hid:idA t=true) {kr k:Nat} {ns:List Nam} {v:Value}
  (hr:(AL ab tg cap T (nx T i) z r)[kr]?=some (.r 135 2 v ns.length (ns.flatMap namCells))) (hne:idxO ns (idRest t)=some k) (hk:k≤100000) (hn:ns.length≤1000):
  Calls Tryz.prog 123 #[.pointer (some ⟨ab,0,none⟩),v] w (Ans w0 (.tuple #[.agg #[.int .u32 (k:Nat),.int .i64 0],.bool true]) (AL ab tg cap T (nx T i) z r)):=by
 have H:=hide h
 have HT:=hide ht
 have hnot:∀(x:Bool) (w:World),(Op.unary .not (.bool x)).run Tryz.prog w=.ok (.bool (!x)) w:=fun _ _=>rfl
 have hw:IntKind.u32.wrap (k:Int)=(k:Int):=IntWalk.u32_in _ ⟨by omega,by omega⟩
 have HI:=hide hid
 have h5:Hid (t.1=5):=by show _=_;unfold idA at hid;simp at hid;exact hid.1.2
 clear h ht hid
 go_enter Tryz.func123,Tryz.ntmps123
 go_wp2_with fail
 refine(tPeek_any (r:=r++[.b w.heap.size [.int .u32 0,.int .i64 0]]) (H.out.new #[.int .u32 0,.int .i64 0] 66) HT.out).mono ?_
 rintro e w1 ⟨rfl,h1⟩
 have H1:=hide h1
 generalize w.heap.size=rb at*
 clear h1 H
 go_wp2_with fail
 refine(tID_all t hz _).mono ?_
 rintro e w2 ⟨x,rfl,hx,hk2⟩
 obtain rfl:=hx HI.out
 rw[HI.out]
 have H2:=hide (H1.out.to hk2)
 clear hk2 hx H1
 obtain⟨x,hx⟩:∃x,idRest t=x:=⟨_,rfl⟩
 rw[hx] at hne ⊢
 clear hx
 go_wp2_with fail
 refine(tTake_any H2.out HT.out hl (by rw[h5.out];rfl)).mono ?_
 rintro e w3 ⟨rfl,h3⟩
 obtain⟨c,p,s⟩:=t
 rw[show tokV (c,p,s)=.agg #[.int .u8 (c:Nat),.int .i64 (p:Nat),.string s] from rfl]
 have h4:=h3.alloc (.cells #[.int .u8 (c:Nat),.int .i64 (p:Nat),.string s] 144)
 rw[AL.app] at h4
 obtain⟨l,hll⟩:∃l,AL ab tg cap T (nx T i) z r=l:=⟨_,rfl⟩
 rw[hll] at h4 hr
 have HL:=hide hll
 clear hll
 have HRW:=hide (h4.isRow kr (getL hr))
 have H4:=hide h4
 clear h3 h4 H2
 go_wp2_with fail
 refine(idx_any x HRW.out (by omega)).mono ?_
 rintro e w4 ⟨rfl,hk4⟩
 rw[hne]
 simp only[Option.getD_some,Option.isSome_some]
 have h5:=H4.out.to hk4
 obtain⟨a1,b1⟩:=h5.cL 0
 obtain⟨a2,b2⟩:=h5.cL 1
 have hpb1:=h5.ltL
 have h6:=(h5.setL 0 (.int .u32 (k:Nat))).setL 1 (.int .i64 0)
 obtain⟨y0,-⟩:=h6.cL 0
 obtain⟨y1,-⟩:=h6.cL 1
 have H6:=hide h6.left
 clear h5 h6 hk4 H4 HRW
 go_wp2
 refine bodyPost_ret (v:=.tuple #[.agg #[.int .u32 (k:Nat),.int .i64 0],.bool true]) ?_ rfl ?_
 ·simp[results,Tryz.results123,go_sem,y0,y1]
 ·exact⟨rfl,by rw[HL.out];exact H6.out⟩
set_option maxRecDepth 100000 in
set_option maxHeartbeats 1600000 in
theorem asIndex_missA {kr kq n:Nat} {ns:List Nam} {v vQ:Value} {xs:List Value} (h:Sx w0 w (AL ab tg cap T i z r)) (ht:T[i]?=some t) (hl:T.length≤100000) (hzz:t.2.2.size≤100) (hid:idA t=true)
  (hr:r[kr]?=some (.r 135 2 v ns.length (ns.flatMap namCells))) (hne:idxO ns (idRest t)=none) (hn:ns.length≤1000) (hz:z[8]?=some vQ) (hq:r[kq]?=some (.r 38 2 vQ n xs)) (hnq:n≤100000):
  Calls Tryz.prog 123 #[.pointer (some ⟨ab,0,none⟩),v] w (fun e w'=>e=.returned (.tuple #[.agg #[.int .u32 0,.int .i64 0],.bool false])∧∃vQ',Sx w0 w' (AL ab tg cap T (nx T i) (z.set 8 vQ') (r.set kq (.r 38 2 vQ' (n+1) (xs++[.int .i64 9,.int .i64 (t.2.1:Nat)]))))):=by
 have H:=hide h
 have HT:=hide ht
 have hnot:∀(x:Bool) (w:World),(Op.unary .not (.bool x)).run Tryz.prog w=.ok (.bool (!x)) w:=fun _ _=>rfl
 have HI:=hide hid
 have h5:Hid (t.1=5):=by show _=_;unfold idA at hid;simp at hid;exact hid.1.2
 clear h ht hid
 go_enter Tryz.func123,Tryz.ntmps123
 go_wp2_with fail
 refine(tPeek_any (r:=r++[.b w.heap.size [.int .u32 0,.int .i64 0]]) (H.out.new #[.int .u32 0,.int .i64 0] 66) HT.out).mono ?_
 rintro e w1 ⟨rfl,h1⟩
 have H1:=hide h1
 generalize w.heap.size=rb at*
 clear h1 H
 go_wp2_with fail
 refine(tID_all t hzz _).mono ?_
 rintro e w2 ⟨x,rfl,hx,hk2⟩
 obtain rfl:=hx HI.out
 rw[HI.out]
 have H2:=hide (H1.out.to hk2)
 clear hk2 hx H1
 obtain⟨x,hx⟩:∃x,idRest t=x:=⟨_,rfl⟩
 rw[hx] at hne ⊢
 clear hx
 go_wp2_with fail
 refine(tTake_any H2.out HT.out hl (by rw[h5.out];rfl)).mono ?_
 rintro e w3 ⟨rfl,h3⟩
 have te:tokV t=.agg #[.int .u8 (t.1:Nat),.int .i64 (t.2.1:Nat),.string t.2.2]:=rfl
 rw[te]
 have HTE:=hide te
 clear te
 have h4:Sx w0 (w3.alloc (.cells #[.int .u8 (t.1:Nat),.int .i64 (t.2.1:Nat),.string t.2.2] 144)) (AL ab tg cap T (nx T i) z (r++[.b rb [.int .u32 0,.int .i64 0]]++[.b w3.heap.size [.int .u8 (t.1:Nat),.int .i64 (t.2.1:Nat),.string t.2.2]])):=h3.new #[.int .u8 (t.1:Nat),.int .i64 (t.2.1:Nat),.string t.2.2] 144
 have HRW:=hide (h4.isRow _ (inR (getL (getL hr))))
 have H4:=hide h4
 clear h3 h4 H2
 go_wp2_with fail
 refine(idx_any x HRW.out (by omega)).mono ?_
 rintro e w4 ⟨rfl,hk4⟩
 rw[hne]
 simp only[Option.getD_none,Option.isSome_none]
 rw[show((0:Nat):Int)=0 from rfl]
 have h5':=H4.out.to hk4
 generalize w3.heap.size=tb at*
 have hx5:=h5'
 rw[AL.app] at hx5
 obtain⟨a0,-⟩:=hx5.cL 0
 obtain⟨a1,-⟩:=hx5.cL 1
 obtain⟨a2,-⟩:=hx5.cL 2
 have la:=hx5.ltL
 have H5:=hide h5'
 clear h5' hx5 hk4 H4 HRW
 go_wp2_with fail
 rw[←HTE.out]
 refine(asNotice_any H5.out hz (getL (getL hq)) hnq 9 t).mono ?_
 rintro e w5 ⟨rfl,vQ',h6⟩
 rw[setLL _ _ _ _ (List.getElem?_eq_some_iff.1 hq).1,AL.app] at h6
 have h7:=h6.left
 rw[AL.app] at h7
 obtain⟨b0,c0⟩:=h7.cL 0
 obtain⟨b1,c1⟩:=h7.cL 1
 have lb:=h7.ltL
 have h8:=(h7.setL 0 (.int .u32 0)).setL 1 (.int .i64 0)
 obtain⟨y0,-⟩:=h8.cL 0
 obtain⟨y1,-⟩:=h8.cL 1
 have H8:=hide h8.left
 clear h6 h7 h8 a0 a1 a2 la H5
 go_wp2
 refine bodyPost_ret (v:=.tuple #[.agg #[.int .u32 0,.int .i64 0],.bool false]) ?_ rfl ?_
 ·simp[results,Tryz.results123,go_sem,y0,y1]
 ·exact⟨rfl,vQ',H8.out⟩
theorem asDeclare_noA (h:Sx w0 w (AL ab tg cap T i z r)) (ht:T[i]?=some t) (hz:t.2.2.size≤100) (hid:idA t=false) (p:Value) (n:Int):
  Calls Tryz.prog 110 #[.pointer (some ⟨ab,0,none⟩),p,.int .i64 n] w (Ans w0 (.bool false) (AL ab tg cap T i z r)):=by
 have H:=hide h
 have HT:=hide ht
 have hnot:∀(x:Bool) (w:World),(Op.unary .not (.bool x)).run Tryz.prog w=.ok (.bool (!x)) w:=fun _ _=>rfl
 have HI:=hide hid
 clear h ht hid
 go_enter Tryz.func110,Tryz.ntmps110
 go_wp2_with fail
 refine(tPeek_any H.out HT.out).mono ?_
 rintro e w1 ⟨rfl,h1⟩
 have H1:=hide h1
 clear h1
 go_wp2_with fail
 refine(tID_all t hz _).mono ?_
 rintro e w2 ⟨x,rfl,-,hk2⟩
 rw[HI.out]
 have H2:=hide (H1.out.to hk2)
 clear hk2
 go_wp2
 go_ret
 exact⟨rfl,H2.out⟩
set_option maxRecDepth 100000 in
set_option maxHeartbeats 1600000 in
theorem asDeclare_yesA (h:Sx w0 w (AL ab tg cap T i z r)) (ht:T[i]?=some t) (hl:T.length≤100000) (hz:t.2.2.size≤100) (hid:idA t=true) {pb po n kb kr:Nat} {cs:List Value} {ns:List Nam} {v:Value}
  (hb:(AL ab tg cap T (nx T i) z r)[kb]?=some (.b pb cs)) (hcs:cs[po]?=some v) (hr:(AL ab tg cap T (nx T i) z r)[kr]?=some (.r 135 2 v ns.length (ns.flatMap namCells))) (hne:idxO ns (idRest t)=none) (hn:ns.length≤1000):
  Calls Tryz.prog 110 #[.pointer (some ⟨ab,0,none⟩),.pointer (some ⟨pb,po,none⟩),.int .i64 (n:Nat)] w fun e w'=>e=.returned (.bool true)∧∃v',Sx w0 w' (((AL ab tg cap T (nx T i) z r).set kb (.b pb (cs.set po v'))).set kr (.r 135 2 v' (ns++[(n,idRest t)]).length ((ns++[(n,idRest t)]).flatMap namCells))):=by
 obtain⟨i0,hi0,hz0,hz1,hz2⟩:=info_parts Tryz.info135'
 have H:=hide h
 have HT:=hide ht
 have hnot:∀(x:Bool) (w:World),(Op.unary .not (.bool x)).run Tryz.prog w=.ok (.bool (!x)) w:=fun _ _=>rfl
 have HI:=hide hid
 have h5:Hid (t.1=5):=by show _=_;unfold idA at hid;simp at hid;exact hid.1.2
 clear h ht hid
 go_enter Tryz.func110,Tryz.ntmps110
 go_wp2_with fail
 refine(tPeek_any H.out HT.out).mono ?_
 rintro e w1 ⟨rfl,h1⟩
 have H1:=hide h1
 clear h1
 go_wp2_with fail
 refine(tID_all t hz _).mono ?_
 rintro e w2 ⟨x,rfl,hx,hk2⟩
 obtain rfl:=hx HI.out
 rw[HI.out]
 have H2:=hide (H1.out.to hk2)
 clear hk2 hx
 obtain⟨x,hx⟩:∃x,idRest t=x:=⟨_,rfl⟩
 rw[hx] at hne ⊢
 have HX:=hide hx
 clear hx
 go_wp2_with fail
 refine(tTake_any H2.out HT.out hl (by rw[h5.out];rfl)).mono ?_
 rintro e w3 ⟨rfl,h3⟩
 obtain⟨c,p,s⟩:=t
 rw[show tokV (c,p,s)=.agg #[.int .u8 (c:Nat),.int .i64 (p:Nat),.string s] from rfl]
 have h4:=h3.alloc (.cells #[.int .u8 (c:Nat),.int .i64 (p:Nat),.string s] 144)
 obtain⟨l,hll⟩:∃l,AL ab tg cap T (nx T i) z r=l:=⟨_,rfl⟩
 rw[hll] at h4 hb hr
 have HL:=hide hll
 clear hll
 obtain⟨a0,b0⟩:=h4.c kb po hb hcs
 have hpb:=h4.lt kb hb
 have HRW:=hide (h4.isRow kr hr)
 have H4:=hide h4
 clear h3 h4
 go_wp2_with fail
 refine(idx_any x HRW.out (by omega)).mono ?_
 rintro e w4 ⟨rfl,hk4⟩
 rw[hne]
 have h5:=H4.out.to hk4
 obtain⟨a1,b1⟩:=h5.c kb po hb hcs
 have hpb1:=h5.lt kb hb
 have HOwn:=hide ((h5.row kr hr).alloc (.cells #[.int .i64 (n:Nat),.string x] 135))
 have HRW5:=hide (h5.row kr hr)
 have H5:=hide h5
 clear h5 a0 b0 hpb hk4
 go_wp2_with (at_builtin;refine wpList_append_lies _ rfl _ _ 56 rfl w0.heap.size 135 i0 (.agg #[.int .i64 0,.string ⟨#[]⟩]) 2 24 (by kernel_rfl) hi0 hz0 hz1 hz2 rfl (by decide) _ _ _ rfl HOwn.out ⟨_,0,none⟩ 1 1 [_,_] rfl rfl (cells_at (by simp) rfl) ?c2 (by omega) ?c3 ?c4 ?c5 (w4.heap.size+1) (by simp) ?_)
 case c2=>intro u hu;simp at hu;rcases hu with rfl | rfl<;>rfl
 case c3=>unfold maxLen;omega
 case c4=>omega
 case c5=>have:=H5.out.kept.size;simp;omega
 intro gg cp w5 hown hgrow hat hlt5
 have hkk:kr≠kb:=fun e=>by rw[e,hb] at hr;cases hr
 have h6:=(H5.out.alloc (.cells #[.int .i64 (n:Nat),.string x] 135)).app kr hown hgrow (hat.imp id (fun e=>by rw[e];simp)) hr
 have hb6:(l.set kr (.r 135 2 (.slice (some ⟨gg,0,none⟩) (ns.length+1) cp) (ns.length+1) (ns.flatMap namCells++[.int .i64 (n:Nat),.string x])))[kb]?=some (.b pb cs):=by rw[List.getElem?_set_ne hkk];exact hb
 have h7:=h6.set kb po (.slice (some ⟨gg,0,none⟩) (ns.length+1) cp) hb6
 obtain⟨a2,b2⟩:=h6.c kb po hb6 hcs
 have hpb2:=h6.lt kb hb6
 rw[List.set_comm _ _ hkk] at h7
 have H7:=hide h7
 clear h6 h7 hown hgrow hat a1 b1 hpb1
 go_wp2
 go_ret
 refine⟨rfl,(.slice (some ⟨gg,0,none⟩) (ns.length+1) cp),?_⟩
 rw[HL.out,HX.out]
 simpa [namCells] using H7.out
end
end
section
open Go.RowKit
section
variable {w0 w:World} {ab tg cap i:Nat} {T:List Tok} {z:List Value} {r:List It} {t t2:Tok}
set_option maxRecDepth 100000 in
set_option maxHeartbeats 800000 in
theorem asIndex_num (h:Sx w0 w (AL ab tg cap T i z r)) (hg:Ge w0) (ht:T[i]?=some t) (hl:T.length≤100000) (hz:t.2.2.size≤100) (hid:idA t=false) (v:Value):
  Calls Tryz.prog 123 #[.pointer (some ⟨ab,0,none⟩),v] w (OutX w0 (numberM T i) fun x=>Ans w0 (.tuple #[.agg #[.int .u32 (x.1:Nat),.int .i64 0],.bool true]) (AL ab tg cap T x.2 z r)):=by
 have H:=hide h
 have HT:=hide ht
 have HG:=hide hg
 have hnot:∀(x:Bool) (w:World),(Op.unary .not (.bool x)).run Tryz.prog w=.ok (.bool (!x)) w:=fun _ _=>rfl
 have HI:=hide hid
 clear h ht hid hg
 go_enter Tryz.func123,Tryz.ntmps123
 go_wp2_with fail
 refine(tPeek_any (r:=r++[.b w.heap.size [.int .u32 0,.int .i64 0]]) (H.out.new #[.int .u32 0,.int .i64 0] 66) HT.out).mono ?_
 rintro e w1 ⟨rfl,h1⟩
 have H1:=hide h1
 generalize w.heap.size=rb at*
 clear h1 H
 go_wp2_with fail
 refine(tID_all t hz _).mono ?_
 rintro e w2 ⟨x,rfl,hx,hk2⟩
 rw[HI.out]
 have H2:=hide (H1.out.to hk2)
 clear hk2 hx H1
 go_wp2_with fail
 refine(asNumber_all H2.out HG.out HT.out hl hz).mono ?_
 intro e w3 h3
 cases hn:numberM T i with
 | error q=>
  rw[hn] at h3
  obtain⟨rfl,hk⟩:=h3
  exact⟨rfl,OutX.err_mk hn ⟨rfl,hk⟩⟩
 | ok y=>
  obtain⟨n,j⟩:=y
  rw[hn] at h3
  obtain⟨rfl,h5⟩:=h3
  simp only at h5 ⊢
  rw[AL.app] at h5
  obtain⟨a1,b1⟩:=h5.cL 0
  obtain⟨a2,b2⟩:=h5.cL 1
  have hpb1:=h5.ltL
  have h6:=(h5.setL 0 (.int .u32 (n:Nat))).setL 1 (.int .i64 0)
  obtain⟨y0,-⟩:=h6.cL 0
  obtain⟨y1,-⟩:=h6.cL 1
  have H6:=hide h6.left
  have HN:=hide hn
  clear h5 h6 H2 hn
  go_wp2
  refine bodyPost_ret (v:=.tuple #[.agg #[.int .u32 (n:Nat),.int .i64 0],.bool true]) ?_ rfl ?_
  ·simp[results,Tryz.results123,go_sem,y0,y1]
  ·exact OutX.ok_mk HN.out ⟨rfl,H6.out⟩
set_option maxRecDepth 100000 in
set_option maxHeartbeats 800000 in
theorem asDeclare_twice {pb po n m kb kr kq k:Nat} {cs xs:List Value} {ns:List Nam} {v vQ:Value} (h:Sx w0 w (AL ab tg cap T i z r)) (ht:T[i]?=some t) (hl:T.length≤100000) (hz:t.2.2.size≤100) (hid:idA t=true)
  (hb:(AL ab tg cap T (nx T i) z r)[kb]?=some (.b pb cs)) (hcs:cs[po]?=some v) (hr:(AL ab tg cap T (nx T i) z r)[kr]?=some (.r 135 2 v ns.length (ns.flatMap namCells))) (hne:idxO ns (idRest t)=some k) (hn:ns.length≤1000) (hz8:z[8]?=some vQ) (hq:r[kq]?=some (.r 38 2 vQ m xs)) (hnq:m≤100000):
  Calls Tryz.prog 110 #[.pointer (some ⟨ab,0,none⟩),.pointer (some ⟨pb,po,none⟩),.int .i64 (n:Nat)] w (fun e w'=>e=.returned (.bool true)∧∃vQ',Sx w0 w' (AL ab tg cap T (nx T i) (z.set 8 vQ') (r.set kq (.r 38 2 vQ' (m+1) (xs++[.int .i64 6,.int .i64 (t.2.1:Nat)]))))):=by
 have H:=hide h
 have HT:=hide ht
 have hnot:∀(x:Bool) (w:World),(Op.unary .not (.bool x)).run Tryz.prog w=.ok (.bool (!x)) w:=fun _ _=>rfl
 have HI:=hide hid
 have h5:Hid (t.1=5):=by show _=_;unfold idA at hid;simp at hid;exact hid.1.2
 clear h ht hid
 go_enter Tryz.func110,Tryz.ntmps110
 go_wp2_with fail
 refine(tPeek_any H.out HT.out).mono ?_
 rintro e w1 ⟨rfl,h1⟩
 have H1:=hide h1
 clear h1
 go_wp2_with fail
 refine(tID_all t hz _).mono ?_
 rintro e w2 ⟨x,rfl,hx,hk2⟩
 obtain rfl:=hx HI.out
 rw[HI.out]
 have H2:=hide (H1.out.to hk2)
 clear hk2 hx
 obtain⟨x,hx⟩:∃x,idRest t=x:=⟨_,rfl⟩
 rw[hx] at hne ⊢
 have HX:=hide hx
 clear hx
 go_wp2_with fail
 refine(tTake_any H2.out HT.out hl (by rw[h5.out];rfl)).mono ?_
 rintro e w3 ⟨rfl,h3⟩
 obtain⟨c,p,s⟩:=t
 rw[show tokV (c,p,s)=.agg #[.int .u8 (c:Nat),.int .i64 (p:Nat),.string s] from rfl]
 have h4:Sx w0 (w3.alloc (.cells #[.int .u8 (c:Nat),.int .i64 (p:Nat),.string s] 144)) (AL ab tg cap T (nx T i) z (r++[.b w3.heap.size [.int .u8 (c:Nat),.int .i64 (p:Nat),.string s]])):=h3.new #[.int .u8 (c:Nat),.int .i64 (p:Nat),.string s] 144
 have h4':=h4
 rw[AL.app] at h4'
 obtain⟨a0,b0⟩:=h4'.c kb po (getL hb) hcs
 have hpb:=h4'.lt kb (getL hb)
 have HRW:=hide (h4'.isRow kr (getL hr))
 have H4:=hide h4
 clear h3 h4 h4'
 go_wp2_with fail
 refine(idx_any x HRW.out (by omega)).mono ?_
 rintro e w4 ⟨rfl,hk4⟩
 rw[hne]
 simp only[Option.getD_some,Option.isSome_some]
 have h6:=H4.out.to hk4
 have h6':=h6
 rw[AL.app] at h6'
 obtain⟨e0,-⟩:=h6'.cL 0
 obtain⟨e1,-⟩:=h6'.cL 1
 obtain⟨e2,-⟩:=h6'.cL 2
 have H6:=hide h6
 have hq':(r++[.b w3.heap.size [.int .u8 (c:Nat),.int .i64 (p:Nat),.string s]])[kq]?=some (.r 38 2 vQ m xs):=getL hq
 have hkq:kq<r.length:=(List.getElem?_eq_some_iff.1 hq).1
 clear a0 b0 hpb hk4 h6 h6' HRW H4
 go_wp2_with fail
 refine(asNotice_any H6.out hz8 hq' hnq 6 (c,p,s)).mono ?_
 rintro e w5 ⟨rfl,vQ',h7⟩
 have H7:Hid (Sx w0 w5 (AL ab tg cap T (nx T i) (z.set 8 vQ') (r.set kq (.r 38 2 vQ' (m+1) (xs++[.int .i64 6,.int .i64 (p:Nat)]))))):=by
  rw[List.set_append_left _ _ hkq,AL.app] at h7
  exact h7.left
 clear h7 H6
 go_wp2
 go_ret
 exact⟨rfl,vQ',H7.out⟩
end
end
end Go.Proofs.YtkmofapihggjgaaGreatDoor
