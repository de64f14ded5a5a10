import Derived.Maps.OwnOps
import Derived.Maps.OwnSet
import Derived.Test.YtkmofapihggjgaaGreatDoorRows
import Derived.Test.YtkmofapihggjgaaGreatDoorX0
namespace Go.Proofs.YtkmofapihggjgaaGreatDoor
section
open Go.RowKit
def strsOf:DataW Unit→List ByteArray
 | .agg l=>l.map fun | .lit (.string b)=>⟨b.toArray⟩ | _=>⟨#[]⟩
 | _=>[]
def earlyL:List ByteArray:=strsOf Rows.laid_loom_code_early
def comparesL:List ByteArray:=strsOf Rows.laid_loom_code_compares
def computesL:List ByteArray:=strsOf Rows.laid_loom_code_computes
structure Gl (w:World):Prop where
 e:∀j,j<67→w.cell? ⟨0,j,none⟩=some (.string (earlyL.getD j ⟨#[]⟩))
 c:∀j,j<11→w.cell? ⟨1,j,none⟩=some (.string (comparesL.getD j ⟨#[]⟩))
 d:∀j,j<18→w.cell? ⟨2,j,none⟩=some (.string (computesL.getD j ⟨#[]⟩))
 size:9≤w.heap.size
theorem Gl.kept {w w':World} (h:Gl w) (hk:Kept (fun _=>False) w w'):Gl w':=by
 have hs:=h.size
 exact⟨fun j hj=>(hk.cell (p:=⟨0,j,none⟩) (by simp;omega) (fun c=>c)).trans (h.e j hj),fun j hj=>(hk.cell (p:=⟨1,j,none⟩) (by simp;omega) (fun c=>c)).trans (h.c j hj),fun j hj=>(hk.cell (p:=⟨2,j,none⟩) (by simp;omega) (fun c=>c)).trans (h.d j hj),Nat.le_trans hs hk.size⟩
def spellChB (x:Nat):ByteArray:=if x=167 then⟨#[105,51,50,46,119,114,97,112,95,105,54,52]⟩ else if x=172 then⟨#[105,54,52,46,101,120,116,101,110,100,95,105,51,50,95,115]⟩ else if x=173 then⟨#[105,54,52,46,101,120,116,101,110,100,95,105,51,50,95,117]⟩ else⟨#[]⟩
theorem spellCh_any (x:Nat) (w:World):Calls Tryz.prog 85 #[.int .u8 (x:Nat)] w fun e w'=>e=.returned (.string (spellChB x))∧w'=w:=by
 unfold spellChB
 by_cases h1:x=167
 ·have t1:((x:Int)==167)=true:=by simp[h1]
  rw[if_pos h1]
  clear h1
  go_enter Tryz.func85,Tryz.ntmps85
  go_wp2
  go_ret
  exact⟨rfl,rfl⟩
 rw[if_neg h1]
 have t1:((x:Int)==167)=false:=by simp;omega
 clear h1
 by_cases h1:x=172
 ·have t2:((x:Int)==172)=true:=by simp[h1]
  rw[if_pos h1]
  clear h1
  go_enter Tryz.func85,Tryz.ntmps85
  go_wp2
  go_ret
  exact⟨rfl,rfl⟩
 rw[if_neg h1]
 have t2:((x:Int)==172)=false:=by simp;omega
 clear h1
 by_cases h1:x=173
 ·have t3:((x:Int)==173)=true:=by simp[h1]
  rw[if_pos h1]
  clear h1
  go_enter Tryz.func85,Tryz.ntmps85
  go_wp2
  go_ret
  exact⟨rfl,rfl⟩
 rw[if_neg h1]
 have t3:((x:Int)==173)=false:=by simp;omega
 clear h1
 go_enter Tryz.func85,Tryz.ntmps85
 go_wp2
 go_ret
 exact⟨rfl,rfl⟩
def i32d:ByteArray:=⟨#[105,51,50,46]⟩
def i64d:ByteArray:=⟨#[105,54,52,46]⟩
def spellB (x:Nat):ByteArray:=
 if x<67 then earlyL.getD x ⟨#[]⟩
 else if 69≤x∧x≤79 then i32d++comparesL.getD (x - 69) ⟨#[]⟩
 else if 80≤x∧x≤90 then i64d++comparesL.getD (x - 80) ⟨#[]⟩
 else if 103≤x∧x≤120 then i32d++computesL.getD (x - 103) ⟨#[]⟩
 else if 121≤x∧x≤138 then i64d++computesL.getD (x - 121) ⟨#[]⟩
 else spellChB x
theorem compares_size:∀j,j<11→(comparesL.getD j ⟨#[]⟩).size≤20:=by decide+kernel
theorem computes_size:∀j,j<18→(computesL.getD j ⟨#[]⟩).size≤20:=by decide+kernel
set_option maxRecDepth 100000 in
set_option maxHeartbeats 800000 in
theorem spell_any {w:World} (h:Gl w) (x:Nat) (hx:x<256):Calls Tryz.prog 73 #[.int .u8 (x:Nat)] w fun e w'=>e=.returned (.string (spellB x))∧w'=w:=by
 have H:=hide h
 clear h
 obtain⟨r,hr⟩:∃r,spellB x=r:=⟨_,rfl⟩
 rw[hr]
 unfold spellB at hr
 by_cases h1:x<67
 ·rw[if_pos h1] at hr
  have c:=H.out.e x h1
  rw[hr] at c
  have t1:(x:Int)<67:=by omega
  clear hr
  go_enter Tryz.func73,Tryz.ntmps73
  go_wp2
  go_ret
  exact⟨rfl,rfl⟩
 rw[if_neg h1] at hr
 have t1:¬(x:Int)<67:=by omega
 by_cases h2:x≤68
 ·rw[if_neg (by omega)] at hr
  rw[if_neg (by omega)] at hr
  rw[if_neg (by omega)] at hr
  rw[if_neg (by omega)] at hr
  have f0:¬((69:Int)≤(x:Int)):=by omega
  have f1:¬((80:Int)≤(x:Int)):=by omega
  have f2:¬((103:Int)≤(x:Int)):=by omega
  have f3:¬((121:Int)≤(x:Int)):=by omega
  clear h1 h2
  go_enter Tryz.func73,Tryz.ntmps73
  go_wp2_with fail
  refine(spellCh_any _ _).mono ?_
  rintro e w1 ⟨rfl,rfl⟩
  rw[hr]
  go_wp2
  go_ret
  exact⟨rfl,rfl⟩
 by_cases h2:x≤79
 ·rw[if_pos (by omega)] at hr
  have f0:((69:Int)≤(x:Int)):=by omega
  have g0:((x:Int)≤79):=by omega
  have f1:¬((80:Int)≤(x:Int)):=by omega
  have f2:¬((103:Int)≤(x:Int)):=by omega
  have f3:¬((121:Int)≤(x:Int)):=by omega
  have c:=H.out.c (x - 69) (by omega)
  have hz:=compares_size (x - 69) (by omega)
  have hw:IntKind.u8.wrap ((x:Int) - 69)=((x - 69:Nat):Int):=by rw[IntWalk.u8_in _ ⟨by omega,by omega⟩];omega
  have t4:((x - 69:Nat):Int)<11:=by omega
  generalize comparesL.getD (x - 69) ⟨#[]⟩=z at*
  have hc:¬9223372036854775807<(⟨#[105,51,50,46]⟩:ByteArray).size+z.size:=by have:(⟨#[105,51,50,46]⟩:ByteArray).size=4:=rfl;omega
  generalize x - 69=k at*
  have HR:=hide hr
  clear hr h1 h2
  go_enter Tryz.func73,Tryz.ntmps73
  go_wp2
  go_ret
  exact⟨by rw[←HR.out];rfl,rfl⟩
 by_cases h2:x≤90
 ·rw[if_neg (by omega)] at hr
  rw[if_pos (by omega)] at hr
  have f0:((69:Int)≤(x:Int)):=by omega
  have g0:¬((x:Int)≤79):=by omega
  have f1:((80:Int)≤(x:Int)):=by omega
  have g1:((x:Int)≤90):=by omega
  have f2:¬((103:Int)≤(x:Int)):=by omega
  have f3:¬((121:Int)≤(x:Int)):=by omega
  have c:=H.out.c (x - 80) (by omega)
  have hz:=compares_size (x - 80) (by omega)
  have hw:IntKind.u8.wrap ((x:Int) - 80)=((x - 80:Nat):Int):=by rw[IntWalk.u8_in _ ⟨by omega,by omega⟩];omega
  have t4:((x - 80:Nat):Int)<11:=by omega
  generalize comparesL.getD (x - 80) ⟨#[]⟩=z at*
  have hc:¬9223372036854775807<(⟨#[105,54,52,46]⟩:ByteArray).size+z.size:=by have:(⟨#[105,54,52,46]⟩:ByteArray).size=4:=rfl;omega
  generalize x - 80=k at*
  have HR:=hide hr
  clear hr h1 h2
  go_enter Tryz.func73,Tryz.ntmps73
  go_wp2
  go_ret
  exact⟨by rw[←HR.out];rfl,rfl⟩
 by_cases h2:x≤102
 ·rw[if_neg (by omega)] at hr
  rw[if_neg (by omega)] at hr
  rw[if_neg (by omega)] at hr
  rw[if_neg (by omega)] at hr
  have f0:((69:Int)≤(x:Int)):=by omega
  have g0:¬((x:Int)≤79):=by omega
  have f1:((80:Int)≤(x:Int)):=by omega
  have g1:¬((x:Int)≤90):=by omega
  have f2:¬((103:Int)≤(x:Int)):=by omega
  have f3:¬((121:Int)≤(x:Int)):=by omega
  clear h1 h2
  go_enter Tryz.func73,Tryz.ntmps73
  go_wp2_with fail
  refine(spellCh_any _ _).mono ?_
  rintro e w1 ⟨rfl,rfl⟩
  rw[hr]
  go_wp2
  go_ret
  exact⟨rfl,rfl⟩
 by_cases h2:x≤120
 ·rw[if_neg (by omega)] at hr
  rw[if_neg (by omega)] at hr
  rw[if_pos (by omega)] at hr
  have f0:((69:Int)≤(x:Int)):=by omega
  have g0:¬((x:Int)≤79):=by omega
  have f1:((80:Int)≤(x:Int)):=by omega
  have g1:¬((x:Int)≤90):=by omega
  have f2:((103:Int)≤(x:Int)):=by omega
  have g2:((x:Int)≤120):=by omega
  have f3:¬((121:Int)≤(x:Int)):=by omega
  have c:=H.out.d (x - 103) (by omega)
  have hz:=computes_size (x - 103) (by omega)
  have hw:IntKind.u8.wrap ((x:Int) - 103)=((x - 103:Nat):Int):=by rw[IntWalk.u8_in _ ⟨by omega,by omega⟩];omega
  have t4:((x - 103:Nat):Int)<18:=by omega
  generalize computesL.getD (x - 103) ⟨#[]⟩=z at*
  have hc:¬9223372036854775807<(⟨#[105,51,50,46]⟩:ByteArray).size+z.size:=by have:(⟨#[105,51,50,46]⟩:ByteArray).size=4:=rfl;omega
  generalize x - 103=k at*
  have HR:=hide hr
  clear hr h1 h2
  go_enter Tryz.func73,Tryz.ntmps73
  go_wp2
  go_ret
  exact⟨by rw[←HR.out];rfl,rfl⟩
 by_cases h2:x≤138
 ·rw[if_neg (by omega)] at hr
  rw[if_neg (by omega)] at hr
  rw[if_neg (by omega)] at hr
  rw[if_pos (by omega)] at hr
  have f0:((69:Int)≤(x:Int)):=by omega
  have g0:¬((x:Int)≤79):=by omega
  have f1:((80:Int)≤(x:Int)):=by omega
  have g1:¬((x:Int)≤90):=by omega
  have f2:((103:Int)≤(x:Int)):=by omega
  have g2:¬((x:Int)≤120):=by omega
  have f3:((121:Int)≤(x:Int)):=by omega
  have g3:((x:Int)≤138):=by omega
  have c:=H.out.d (x - 121) (by omega)
  have hz:=computes_size (x - 121) (by omega)
  have hw:IntKind.u8.wrap ((x:Int) - 121)=((x - 121:Nat):Int):=by rw[IntWalk.u8_in _ ⟨by omega,by omega⟩];omega
  have t4:((x - 121:Nat):Int)<18:=by omega
  generalize computesL.getD (x - 121) ⟨#[]⟩=z at*
  have hc:¬9223372036854775807<(⟨#[105,54,52,46]⟩:ByteArray).size+z.size:=by have:(⟨#[105,54,52,46]⟩:ByteArray).size=4:=rfl;omega
  generalize x - 121=k at*
  have HR:=hide hr
  clear hr h1 h2
  go_enter Tryz.func73,Tryz.ntmps73
  go_wp2
  go_ret
  exact⟨by rw[←HR.out];rfl,rfl⟩
 rw[if_neg (by omega)] at hr
 rw[if_neg (by omega)] at hr
 rw[if_neg (by omega)] at hr
 rw[if_neg (by omega)] at hr
 have f0:((69:Int)≤(x:Int)):=by omega
 have g0:¬((x:Int)≤79):=by omega
 have f1:((80:Int)≤(x:Int)):=by omega
 have g1:¬((x:Int)≤90):=by omega
 have f2:((103:Int)≤(x:Int)):=by omega
 have g2:¬((x:Int)≤120):=by omega
 have f3:((121:Int)≤(x:Int)):=by omega
 have g3:¬((x:Int)≤138):=by omega
 clear h1
 go_enter Tryz.func73,Tryz.ntmps73
 go_wp2_with fail
 refine(spellCh_any _ _).mono ?_
 rintro e w1 ⟨rfl,rfl⟩
 rw[hr]
 go_wp2
 go_ret
 exact⟨rfl,rfl⟩
end
section
open Go.RowKit Go.Maps
theorem law:Keyed Tryz.prog 9:=string_keyed Tryz.underlying9
def wordsD:Nat→DataW Unit
 | 0=>.map []
 | k+1=>if(spellB k).toList==[] then wordsD k else(wordsD k).put (.string (spellB k).data.toList) (.lit (.int .u8 (k:Nat)))
theorem spell_size:∀x,x<256→(spellB x).size≤30:=by decide+kernel
set_option maxRecDepth 100000 in
set_option maxHeartbeats 800000 in
theorem words_any {w:World} (h:Gl w):Calls Tryz.prog 35 #[] w fun e w'=>e=.returned (.map (some w.heap.size))∧Kept (fun _=>False) w w'∧w'.ownsMap Tryz.prog 9 (plainElem Tryz.prog 5) w.heap.size 256 (wordsD 256):=by
 have H:=hide h
 clear h
 have hmm:= @run_makeMap Tryz.prog
 go_enter Tryz.func35,Tryz.ntmps35
 go_wp2
 go_loopw [5] (fun q wr=>∃k:Nat,k≤256∧q=.int .i64 (k:Nat)∧Kept (fun _=>False) w wr∧wr.ownsMap Tryz.prog 9 (plainElem Tryz.prog 5) w.heap.size k (wordsD k)) (fun q _=>256 - (intOf q).toNat)
 case atStart=>exact⟨0,by omega,rfl,(Kept.refl _ _).alloc _,World.ownsMap_made _ _ _ _⟩
 case round=>
  obtain⟨k,hk,rfl,hkp,hown⟩:=hrel
  have HO:=hide hown
  clear hown
  by_cases hlt:k<256
  ·have hlt':(k:Int)<256:=by omega
   have hw:IntKind.u8.wrap (k:Int)=(k:Int):=IntWalk.u8_in _ ⟨by omega,by omega⟩
   go_wp2_with fail
   refine(spell_any (H.out.kept hkp) k hlt).mono ?_
   rintro e w1 ⟨rfl,rfl⟩
   have hsz:=spell_size k hlt
   cases hx:((spellB k).toList==[]) with
   | true=>
    have HD:Hid (wordsD (k+1)=wordsD k):=by show _=_;rw[wordsD,if_pos hx]
    have hemp:((spellB k).toList !=(⟨#[]⟩:ByteArray).toList)=false:=by rw[bne_eq_false_iff_eq];simpa using hx
    generalize spellB k=z at*
    have hk2:=World.ownsMap.mono HO.out (n':=k+1) (by omega)
    go_wp2
    go_roundw
    case rel=>exact⟨k+1,by omega,by go_num,hkp,by rw[HD.out];exact hk2⟩
    case measure=>simp[intOf];omega
   | false=>
    have HD:Hid (wordsD (k+1)=(wordsD k).put (.string (spellB k).data.toList) (.lit (.int .u8 (k:Nat)))):=by show _=_;rw[wordsD,if_neg (by rw[hx];decide)]
    have hemp:((spellB k).toList !=(⟨#[]⟩:ByteArray).toList)=true:=by rw[bne_iff_ne];simpa using hx
    have hkey:=WideMaps.keyOf_string_mk (P:=Tryz.prog) Tryz.underlying9 (s:=spellB k) (by unfold maxLen;omega)
    generalize spellB k=z at*
    go_wp2_with (first | (at_mapUpdate;refine wpList_mapUpdate_own _ rfl _ _ _ 104 rfl 9 5 law (by kernel_rfl) _ _ k _ rfl HO.out (by unfold maxLen;omega) _ _ _ rfl rfl hkey _ [] (plainElem_int Tryz.underlying5 (WalkArith.wf_u8 (by omega))) ?_;intro w2 hown2 hgrow2) | fail)
    go_roundw
    case rel=>exact⟨k+1,by omega,by go_num,hkp.fresh (Kept.of_grown hgrow2) (fun i hi (c:some w.heap.size=some i)=>by simp at c;omega),by rw[HD.out];exact hown2⟩
    case measure=>simp[intOf];omega
  ·have hlt':¬(k:Int)<256:=by omega
   have hk2:k=256:=by omega
   subst hk2
   go_wp2
   go_ret
   exact⟨rfl,hkp,HO.out⟩
end
end Go.Proofs.YtkmofapihggjgaaGreatDoor
