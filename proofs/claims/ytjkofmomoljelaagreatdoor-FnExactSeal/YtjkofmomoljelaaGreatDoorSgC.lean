import Derived.Test.YtjkofmomoljelaaGreatDoorSgB
import Derived.Maps.AppendAt
import Derived.Laws.CopyOwn
namespace Go.Proofs.YtjkofmomoljelaaGreatDoor
open Go.RowKit
def kindV (no:Nat):Value:=tabKind (tabNos.idxOf no)
theorem tab_ix (no:Nat) (h:no ∈ tabNos):tabNos.idxOf no < 14 ∧ tabNos.getD (tabNos.idxOf no) 0 = no:=by
 have hl:tabNos.idxOf no < tabNos.length:=List.idxOf_lt_length_of_mem h
 refine ⟨hl,?_⟩
 rw [List.getD_eq_getElem?_getD,List.getElem?_eq_getElem hl]
 exact List.getElem_idxOf hl
theorem ownR_below {w w':World} {base e size n:Nat} {v:Value} {xs:List Value} (h:w.ownsRow base e size v n xs) (hb:Below w.heap.size w w'):w'.ownsRow base e size v n xs :=
 World.ownsRow.kept h (grown_of_below hb none) (by cases hv:v.ownBlock <;> simp)
theorem ownR_mono {w:World} {B base e size n:Nat} {v:Value} {xs:List Value} (h:w.ownsRow base e size v n xs) (hB:B ≤ base):w.ownsRow B e size v n xs:=by
 obtain ⟨h1,h2⟩:=h
 refine ⟨h1,?_⟩
 rcases h2 with h2 | ⟨g,cap,cur,hv,hb,rest⟩
 · exact .inl h2
 · exact .inr ⟨g,cap,cur,hv,by omega,rest⟩
theorem news_of_blk {w:World} {g t:Nat} {cs:List Value} (h:Blk w g t cs):∀ j u,cs[j]? = some u → w.cell? ((⟨g,0,none⟩:Addr).add j) = some u:=by
 intro j u hu
 obtain ⟨hj,he⟩:=List.getElem?_eq_some_iff.1 hu
 rw [Addr.add_mid,Nat.zero_add,h.cell j hj,he]
def szN (s:List UInt8):Nat:=if s.all dig = true then numL s else 0
def sdN (l m:Nat) (s:List UInt8):Bool:=s.all dig && decide (l ≤ numL s ∧ numL s ≤ m)
theorem digs_of (s:List UInt8):digs ⟨s.toArray⟩ = s.all dig:=by unfold digs;simp
theorem szN_le (d:Nat) (hd:d ≤ 3) (s:List UInt8) (hs:s.length = d):szN s ≤ 1000:=by
 unfold szN
 split
 · rename_i h
   unfold numL
   match s,hs,h with
   | [],_,_=>simp
   | [a],_,h =>
     simp at h
     have:=dig_to h
     simp
     omega
   | [a,b],_,h =>
     simp at h
     have h1:=dig_to h.1
     have h2:=dig_to h.2
     simp
     omega
   | [a,b,c],_,h =>
     simp at h
     have h1:=dig_to h.1
     have h2:=dig_to h.2.1
     have h3:=dig_to h.2.2
     simp
     omega
   | _ :: _ :: _ :: _ :: _,hs,_=>simp at hs;omega
 · omega
theorem kd_fixedDigits (n:Nat) (hn:n ≤ 1000):Kd 164 (.agg #[.int .i64 (n:Int)]) (.int .i64 (n:Int)) 235 0 n n okDig (fun _=>n) (fun _=>true) :=
 { mE:=ext_fixedDigits (n:Int),cF:=fun _=>by kernel_rfl,HE:=fun w=>extent_fixed (n:Int) w,HF:=fun data ao cap w h1 h2=>fits_fixedDigits n data ao cap w h1 h2,HS:=fun s w _=>sizeIn_fixed n _ w,d3:=by omega,z:=fun _ _=>hn }
theorem kd_fixedText (n:Nat) (hn:n ≤ 1000):Kd 167 (.agg #[.int .i64 (n:Int)]) (.int .i64 (n:Int)) 235 0 n n okTxt (fun _=>n) (fun _=>true) :=
 { mE:=ext_fixedText (n:Int),cF:=fun _=>by kernel_rfl,HE:=fun w=>extent_fixed (n:Int) w,HF:=fun data ao cap w h1 h2=>fits_fixedText n data ao cap w h1 h2,HS:=fun s w _=>sizeIn_fixed n _ w,d3:=by omega,z:=fun _ _=>hn }
theorem kd_fixedBytes (n:Nat) (hn:n ≤ 1000):Kd 172 (.agg #[.int .i64 (n:Int)]) (.int .i64 (n:Int)) 235 0 n n okAny (fun _=>n) (fun _=>true) :=
 { mE:=ext_fixedBytes (n:Int),cF:=fun _=>by kernel_rfl,HE:=fun w=>extent_fixed (n:Int) w,HF:=fun data ao cap w h1 h2=>fits_fixedBytes n data ao cap w h1 h2,HS:=fun s w _=>sizeIn_fixed n _ w,d3:=by omega,z:=fun _ _=>hn }
theorem sizeIn_szN (d l m:Nat) (hd:0 < d) (hd3:d ≤ 3) (s:List UInt8) (w:World) (hs:s.length = d):Calls Tryz.prog 75 #[.agg #[.int .i64 (d:Int),.int .i64 (l:Int),.int .i64 (m:Int)],.string ⟨s.toArray⟩] w fun e w'=>e = .returned (.tuple #[.int .i64 (szN s:Int),.bool (sdN l m s)]) ∧ Below w.heap.size w w':=by
 have hz:(⟨s.toArray⟩:ByteArray).size = d:=by rw [← hs];simp [ByteArray.size]
 refine (sizeIn_counted d l m ⟨s.toArray⟩ w hd (by omega) (by omega)).mono ?_
 rintro e w' ⟨rfl,bel⟩
 refine ⟨?_,bel⟩
 rw [digs_of]
 show Ending.returned (Value.tuple #[.int .i64 (if s.all dig = true then (numL s:Int) else 0),.bool (sdN l m s)]) = _
 unfold szN
 split <;> rfl
theorem kd_countedDigits (d l m:Nat) (hd:0 < d) (hd3:d ≤ 3):Kd 161 (.agg #[.int .i64 (d:Int),.int .i64 (l:Int),.int .i64 (m:Int)]) (.agg #[.int .i64 (d:Int),.int .i64 (l:Int),.int .i64 (m:Int)]) 233 d l m okDig szN (sdN l m) :=
 { mE:=ext_countedDigits (d:Int) (l:Int) (m:Int),cF:=fun _=>by kernel_rfl,HE:=fun w=>extent_counted (d:Int) (l:Int) (m:Int) w,HF:=fun data ao cap w h1 h2=>fits_countedDigits d l m data ao cap w h1 h2,HS:=fun s w hs=>sizeIn_szN d l m hd hd3 s w hs,d3:=hd3,z:=fun s hs=>szN_le d hd3 s hs }
theorem kd_countedBytes (d l m:Nat) (hd:0 < d) (hd3:d ≤ 3):Kd 170 (.agg #[.int .i64 (d:Int),.int .i64 (l:Int),.int .i64 (m:Int)]) (.agg #[.int .i64 (d:Int),.int .i64 (l:Int),.int .i64 (m:Int)]) 233 d l m okAny szN (sdN l m) :=
 { mE:=ext_countedBytes (d:Int) (l:Int) (m:Int),cF:=fun _=>by kernel_rfl,HE:=fun w=>extent_counted (d:Int) (l:Int) (m:Int) w,HF:=fun data ao cap w h1 h2=>fits_countedBytes d l m data ao cap w h1 h2,HS:=fun s w hs=>sizeIn_szN d l m hd hd3 s w hs,d3:=hd3,z:=fun s hs=>szN_le d hd3 s hs }
def kpD (no:Nat):Nat:=if no = 2 then 2 else if no = 48 then 3 else 0
def kpL (no:Nat):Nat:=if no = 2 then 13 else if no = 48 then 0 else (kindOf (no:Int)).2.toNat
def kpM (no:Nat):Nat:=if no = 2 then 19 else if no = 48 then 200 else (kindOf (no:Int)).2.toNat
def kpOk (no:Nat):UInt8 → Bool:=if (kindOf (no:Int)).1 = 2 then okTxt else if (kindOf (no:Int)).1 = 1 ∨ (kindOf (no:Int)).1 = 4 then okDig else okAny
def kpS (no:Nat) (s:List UInt8):Nat:=if no = 2 ∨ no = 48 then szN s else kpL no
def kpB (no:Nat) (s:List UInt8):Bool:=if no = 2 ∨ no = 48 then sdN (kpL no) (kpM no) s else true
theorem kd_no (no:Nat) (h:no ∈ tabNos):∃ T x r FE,kindV no = .iface T x ∧ Kd T x r FE (kpD no) (kpL no) (kpM no) (kpOk no) (kpS no) (kpB no):=by
 simp only [tabNos,List.mem_cons,List.not_mem_nil,or_false] at h
 rcases h with rfl | rfl | rfl | rfl | rfl | rfl | rfl | rfl | rfl | rfl | rfl | rfl | rfl | rfl
 · exact ⟨_,_,_,_,rfl,kd_countedDigits 2 13 19 (by omega) (by omega)⟩
 · exact ⟨_,_,_,_,rfl,kd_fixedDigits 6 (by omega)⟩
 · exact ⟨_,_,_,_,rfl,kd_fixedDigits 12 (by omega)⟩
 · exact ⟨_,_,_,_,rfl,kd_fixedDigits 10 (by omega)⟩
 · exact ⟨_,_,_,_,rfl,kd_fixedDigits 6 (by omega)⟩
 · exact ⟨_,_,_,_,rfl,kd_fixedText 12 (by omega)⟩
 · exact ⟨_,_,_,_,rfl,kd_fixedText 2 (by omega)⟩
 · exact ⟨_,_,_,_,rfl,kd_fixedText 8 (by omega)⟩
 · exact ⟨_,_,_,_,rfl,kd_countedBytes 3 0 200 (by omega) (by omega)⟩
 · exact ⟨_,_,_,_,rfl,kd_fixedBytes 8 (by omega)⟩
 · exact ⟨_,_,_,_,rfl,kd_fixedBytes 10 (by omega)⟩
 · exact ⟨_,_,_,_,rfl,kd_fixedBytes 8 (by omega)⟩
 · exact ⟨_,_,_,_,rfl,kd_fixedDigits 3 (by omega)⟩
 · exact ⟨_,_,_,_,rfl,kd_fixedBytes 8 (by omega)⟩
set_option maxHeartbeats 1000000 in
theorem isMti_any (s:ByteArray) (w:World):Calls Tryz.prog 62 #[.string s] w fun e w'=>e = .returned (.bool (decide (s.size = 4) && digs s)) ∧ Below w.heap.size w w':=by
 have HA:=hideT (fun (wx:World)=>allDigits_any s wx)
 obtain ⟨q,hq⟩:∃ q,q = digs s:=⟨_,rfl⟩
 rw [← hq] at HA ⊢
 clear hq
 by_cases h:s.size = 4
 · have hI:(s.size:Int) = 4:=by omega
   rw [decide_eq_true h]
   go_enter Tryz.func62,Tryz.ntmps62
   go_wp2_with (refine (HA.out _).mono ?_;rintro e w2 ⟨rfl,b2⟩)
   go_ret
   exact ⟨by rw [Bool.true_and];rfl,b2⟩
 · have hI:¬ (s.size:Int) = 4:=by omega
   rw [decide_eq_false h]
   go_enter Tryz.func62,Tryz.ntmps62
   go_wp2_with fail
   go_ret
   exact ⟨rfl,Below.refl _ _⟩
theorem own_lt {w:World} {base:Nat} {v:Value} {l:List UInt8} (h:Own w base v l):∀ k,v.ownBlock = some k → base ≤ k ∧ k < w.heap.size:=by
 obtain ⟨t,h⟩:=h
 exact h.lt
theorem getD_left {α:Type} (l:List α) (x d:α) (i:Nat) (h:i < l.length):(l ++ [x]).getD i d = l.getD i d:=by
 simp [List.getD_eq_getElem?_getD,List.getElem?_append_left h]
theorem getD_last {α:Type} (l:List α) (x d:α) (i:Nat) (h:i = l.length):(l ++ [x]).getD i d = x:=by
 subst h;simp [List.getD_eq_getElem?_getD]
theorem ownR_shape {w:World} {base e size n:Nat} {v:Value} {xs:List Value} (h:w.ownsRow base e size v n xs):∃ a c,v = .slice a n c:=by
 rcases h.2 with ⟨hv,hz⟩ | ⟨g,c,cur,hv,-⟩
 · exact ⟨none,0,by rw [hv,hz]⟩
 · exact ⟨_,c,hv⟩
end Go.Proofs.YtjkofmomoljelaaGreatDoor
namespace Go.Proofs.YtjkofmomoljelaaGreatDoor
open Go.RowKit
theorem okDig_dig (b:UInt8):okDig b = dig b:=by unfold okDig dig;simp
theorem all_okDig (l:List UInt8):l.all okDig = l.all dig:=by
 induction l with
 | nil=>rfl
 | cons a r ih=>rw [List.all_cons,List.all_cons,ih,okDig_dig]
set_option maxRecDepth 100000 in
set_option maxHeartbeats 4000000 in
theorem holds_fixed (no:Int) (K:Int) (n:Nat) (ok:UInt8 → Bool) (hk:kindOf no = (K,(n:Int))) (h:(K = 1 ∧ ok = okDig) ∨ (K = 2 ∧ ok = okTxt) ∨ (K = 3 ∧ ok = okAny)) (data:List UInt8) (ao:Option Addr) (cap:Nat) (w:World) (hn:data.length ≤ 1048576) (hr:RowAt w ao data) :
   Calls Tryz.prog 121 #[.int .i64 no,.slice ao data.length cap] w fun e w'=>e = .returned (.bool (fitsN n n ok data)) ∧ w' = w:=by
 have HK:=hideT (fun (wx:World)=>l6Kind_any no wx)
 rw [hk] at HK
 have hK0:¬ K = 0:=by omega
 have hK4:¬ K = 4:=by omega
 have hK5:¬ K = 5:=by omega
 obtain ⟨N,hN⟩:∃ N,N = data.length:=⟨_,rfl⟩
 have HN:=hideT hN
 have hN4:N ≤ 1048576:=by omega
 rw [← hN]
 by_cases hl:N = n
 · have hlI:(N:Int) = (n:Int):=by omega
   have HF:Hid (fitsN n n ok data = data.all ok):=by
     show _ = _
     unfold fitsN
     rw [← hN,decide_eq_true (by omega),Bool.true_and]
   have hlb:((N:Int) != (n:Int)) = false:=by rw [hlI];simp
   clear hN hk
   subst hl
   go_enter Tryz.func121,Tryz.ntmps121
   go_wp2_with (go_at_call 84;refine (HK.out _).mono ?_;rintro e w2 ⟨rfl,rfl⟩)
   go_loopw [33] (fun i wr=>∃ k:Nat,k ≤ N ∧ i = .int .i64 (k:Int) ∧ (data.take k).all ok = true ∧ wr = w2) (fun i _=>N - (intOf i).toNat)
   case atStart=>exact ⟨0,Nat.zero_le _,rfl,rfl,rfl⟩
   case round =>
     obtain ⟨k,hk,rfl,hall,hwr⟩:=hrel
     subst hwr
     by_cases hlt:k < N
     · have hltI:(k:Int) < (N:Int):=by omega
       obtain ⟨b,o,rfl,hc⟩:=hr.at (k:=k) (by rw [← HN.out];exact hlt)
       have ck:=hc k (by rw [← HN.out];exact hlt)
       have HNX:=hideT (all_take_succ ok data k (by rw [← HN.out];exact hlt) hall)
       have HFA:=hideT (all_false_of ok data k (by rw [← HN.out];exact hlt))
       obtain ⟨y,hy⟩:∃ y,y = (data.getD k 0).toNat:=⟨_,rfl⟩
       rw [← hy] at ck
       have HY:=hideT hy
       clear hy hc hall hr
       rcases h with ⟨rfl,rfl⟩ | ⟨rfl,rfl⟩ | ⟨rfl,rfl⟩
       · skip
         by_cases h1:y < 48
         · have h1I:(y:Int) < 48:=by omega
           go_wp2_with fail
           go_ret
           exact ⟨by rw [HF.out,HFA.out (by unfold okDig;rw [← HY.out];simp;omega)];rfl,rfl⟩
         · have h1I:¬ (y:Int) < 48:=by omega
           by_cases h2:57 < y
           · have h2I:(57:Int) < (y:Int):=by omega
             go_wp2_with fail
             go_ret
             exact ⟨by rw [HF.out,HFA.out (by unfold okDig;rw [← HY.out];simp;omega)];rfl,rfl⟩
           · have h2I:¬ (57:Int) < (y:Int):=by omega
             go_wp2_with fail
             go_roundw
             case rel=>exact ⟨k + 1,by omega,by go_num,HNX.out.trans (by unfold okDig;rw [← HY.out];simp;omega),by trivial⟩
             case measure=>simp [intOf];omega
       · skip
         by_cases h1:y < 32
         · have h1I:(y:Int) < 32:=by omega
           go_wp2_with fail
           go_ret
           exact ⟨by rw [HF.out,HFA.out (by unfold okTxt;rw [← HY.out];simp;omega)];rfl,rfl⟩
         · have h1I:¬ (y:Int) < 32:=by omega
           by_cases h2:126 < y
           · have h2I:(126:Int) < (y:Int):=by omega
             go_wp2_with fail
             go_ret
             exact ⟨by rw [HF.out,HFA.out (by unfold okTxt;rw [← HY.out];simp;omega)];rfl,rfl⟩
           · have h2I:¬ (126:Int) < (y:Int):=by omega
             go_wp2_with fail
             go_roundw
             case rel=>exact ⟨k + 1,by omega,by go_num,HNX.out.trans (by unfold okTxt;rw [← HY.out];simp;omega),by trivial⟩
             case measure=>simp [intOf];omega
       · skip
         go_wp2_with fail
         go_roundw
         case rel=>exact ⟨k + 1,by omega,by go_num,HNX.out.trans rfl,by trivial⟩
         case measure=>simp [intOf];omega
     · have hltI:¬ ((k:Int) < (N:Int)):=by omega
       have hka:data.all ok = true:=by
         rw [List.take_of_length_le (by rw [← HN.out];omega)] at hall
         exact hall
       go_wp2_with fail
       go_ret
       exact ⟨by rw [HF.out,hka];rfl,rfl⟩
 · have hlI:¬ (N:Int) = (n:Int):=by omega
   have HF:fitsN n n ok data = false:=by
     unfold fitsN
     rw [← hN,decide_eq_false (by omega),Bool.false_and]
   rw [HF]
   clear hN hk HF hr
   go_enter Tryz.func121,Tryz.ntmps121
   go_wp2_with (go_at_call 84;refine (HK.out _).mono ?_;rintro e w2 ⟨rfl,rfl⟩)
   go_ret
   exact ⟨rfl,rfl⟩
theorem holds_pan (data:List UInt8) (ao:Option Addr) (cap:Nat) (w:World) (hn:data.length ≤ 1048576) (hr:RowAt w ao data) :
   Calls Tryz.prog 121 #[.int .i64 2,.slice ao data.length cap] w fun e w'=>e = .returned (.bool (fitsN 13 19 okDig data)) ∧ w' = w:=by
 have HK:=hideT (fun (wx:World)=>l6Kind_any 2 wx)
 rw [show kindOf 2 = (4,2) from rfl] at HK
 have hcv:=conv_anyI data ao data.length cap w rfl hr
 have hsz:(⟨data.toArray⟩:ByteArray).size = data.length:=by simp [ByteArray.size]
 have HG:=hideT (fun (wx:World)=>goodPan_any ⟨data.toArray⟩ wx (by rw [hsz];unfold maxLen;omega))
 rw [hsz,digs_of] at HG
 have HF:Hid (fitsN 13 19 okDig data = (decide (13 ≤ data.length) && decide (data.length ≤ 19) && data.all dig)):=by
   show _ = _
   unfold fitsN
   rw [all_okDig,Bool.decide_and]
 rw [show fitsN 13 19 okDig data = _ from HF]
 obtain ⟨q,hq⟩:∃ q,q = (decide (13 ≤ data.length) && decide (data.length ≤ 19) && data.all dig):=⟨_,rfl⟩
 rw [← hq] at HG ⊢
 obtain ⟨N,hN⟩:∃ N,N = data.length:=⟨_,rfl⟩
 rw [← hN] at hcv ⊢
 obtain ⟨S,hS⟩:∃ S:ByteArray,S = ⟨data.toArray⟩:=⟨_,rfl⟩
 rw [← hS] at hcv HG
 clear hN hS hq HF hsz hr
 go_enter Tryz.func121,Tryz.ntmps121
 go_wp2_with (first | (go_at_call 84;refine (HK.out _).mono ?_;rintro e w2 ⟨rfl,hw2⟩;subst hw2) | (go_at_call 145;refine (HG.out _).mono ?_;rintro e w3 ⟨rfl,hw3⟩;subst hw3))
 go_ret
 exact ⟨rfl,rfl⟩
theorem holds_block (data:List UInt8) (ao:Option Addr) (cap:Nat) (w:World) :
   Calls Tryz.prog 121 #[.int .i64 48,.slice ao data.length cap] w fun e w'=>e = .returned (.bool (fitsN 0 200 okAny data)) ∧ w' = w:=by
 have HK:=hideT (fun (wx:World)=>l6Kind_any 48 wx)
 rw [show kindOf 48 = (5,3) from rfl] at HK
 have hall:data.all okAny = true:=by rw [List.all_eq_true];intro x _;rfl
 have HF:fitsN 0 200 okAny data = decide (data.length ≤ 200):=by unfold fitsN;rw [hall,Bool.and_true];simp
 rw [HF]
 obtain ⟨N,hN⟩:∃ N,N = data.length:=⟨_,rfl⟩
 rw [← hN]
 clear hN HF hall
 go_enter Tryz.func121,Tryz.ntmps121
 go_wp2_with (go_at_call 84;refine (HK.out _).mono ?_;rintro e w2 ⟨rfl,rfl⟩)
 go_ret
 exact ⟨by rw [show decide (N ≤ 200) = decide ((N:Int) ≤ 200) from decide_eq_decide.2 (by omega)];rfl,rfl⟩
theorem holds_no (no:Nat) (h:no ∈ tabNos) (data:List UInt8) (ao:Option Addr) (cap:Nat) (w:World) (hn:data.length ≤ 1048576) (hr:RowAt w ao data) :
   Calls Tryz.prog 121 #[.int .i64 (no:Int),.slice ao data.length cap] w fun e w'=>e = .returned (.bool (fitsN (kpL no) (kpM no) (kpOk no) data)) ∧ w' = w:=by
 simp only [tabNos,List.mem_cons,List.not_mem_nil,or_false] at h
 rcases h with rfl | rfl | rfl | rfl | rfl | rfl | rfl | rfl | rfl | rfl | rfl | rfl | rfl | rfl
 · exact holds_pan data ao cap w hn hr
 · exact holds_fixed 3 1 6 okDig rfl (.inl ⟨rfl,rfl⟩) data ao cap w hn hr
 · exact holds_fixed 4 1 12 okDig rfl (.inl ⟨rfl,rfl⟩) data ao cap w hn hr
 · exact holds_fixed 7 1 10 okDig rfl (.inl ⟨rfl,rfl⟩) data ao cap w hn hr
 · exact holds_fixed 11 1 6 okDig rfl (.inl ⟨rfl,rfl⟩) data ao cap w hn hr
 · exact holds_fixed 37 2 12 okTxt rfl (.inr (.inl ⟨rfl,rfl⟩)) data ao cap w hn hr
 · exact holds_fixed 39 2 2 okTxt rfl (.inr (.inl ⟨rfl,rfl⟩)) data ao cap w hn hr
 · exact holds_fixed 41 2 8 okTxt rfl (.inr (.inl ⟨rfl,rfl⟩)) data ao cap w hn hr
 · exact holds_block data ao cap w
 · exact holds_fixed 52 3 8 okAny rfl (.inr (.inr ⟨rfl,rfl⟩)) data ao cap w hn hr
 · exact holds_fixed 53 3 10 okAny rfl (.inr (.inr ⟨rfl,rfl⟩)) data ao cap w hn hr
 · exact holds_fixed 64 3 8 okAny rfl (.inr (.inr ⟨rfl,rfl⟩)) data ao cap w hn hr
 · exact holds_fixed 70 1 3 okDig rfl (.inl ⟨rfl,rfl⟩) data ao cap w hn hr
 · exact holds_fixed 128 3 8 okAny rfl (.inr (.inr ⟨rfl,rfl⟩)) data ao cap w hn hr
end Go.Proofs.YtjkofmomoljelaaGreatDoor
namespace Go.Proofs.YtjkofmomoljelaaGreatDoor
open Go.RowKit
end Go.Proofs.YtjkofmomoljelaaGreatDoor
namespace Go.Proofs.YtjkofmomoljelaaGreatDoor
open Go.RowKit
end Go.Proofs.YtjkofmomoljelaaGreatDoor
