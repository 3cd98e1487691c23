import Derived.Test.YtbkokcjolanpeaaGreatDoorRgAE
import Derived.Test.YtbkokcjolanpeaaGreatDoorRgAA
import Derived.Laws.CopyOwn
import Derived.Test.YtbkokcjolanpeaaGreatDoorRgAG
import Derived.Test.YtbkokcjolanpeaaGreatDoorRgAN
import Derived.Test.YtbkokcjolanpeaaGreatDoorRgAT
namespace Go.Proofs.YtbkokcjolanpeaaGreatDoor
open Go.RowKit
theorem bit_set (l:List UInt8) (k j:Nat) (hk:k / 8 < l.length):bitL (setLI l k) j = (bitL l j || decide (j = k)):=by
 unfold bitL setLI
 by_cases h:j / 8 = k / 8
 · rw [h,List.getD_eq_getElem?_getD,List.getElem?_set_self hk,Option.getD_some,UInt8.toNat_ofNat']
   have hx:(l.getD (k / 8) 0).toNat < 2 ^ 8:=UInt8.toNat_lt _
   have hp:=pow7 k
   have hlt:(l.getD (k / 8) 0).toNat ||| 2 ^ (7 - k % 8) < 2 ^ 8:=Nat.or_lt_two_pow hx hp
   rw [Nat.mod_eq_of_lt hlt,Nat.testBit_or,Nat.testBit_two_pow]
   congr 1
   rw [decide_eq_decide]
   omega
 · rw [List.getD_eq_getElem?_getD,List.getElem?_set_ne (fun e=>h e.symm),← List.getD_eq_getElem?_getD]
   have:decide (j = k) = false:=decide_eq_false (fun e=>h (by rw [e]))
   rw [this,Bool.or_false]
theorem bit_zero (n k:Nat):bitL (List.replicate n 0) k = false:=by
 unfold bitL
 rw [List.getD_eq_getElem?_getD,List.getElem?_replicate]
 split <;> simp
def noL (L:List (Int × List UInt8)) (i:Nat):Nat:=(L.getD i (0,[])).1.toNat
theorem noL_tab {L:List (Int × List UInt8)} (h:okL L = true) {i:Nat} (hi:i < L.length):noL L i ∈ tabNos:=(okL_at h i hi).2.2.1
theorem noL_rng {L:List (Int × List UInt8)} (h:okL L = true) {i:Nat} (hi:i < L.length):2 ≤ noL L i ∧ noL L i ≤ 128:=tab_le _ (noL_tab h hi)
theorem noL_lt {L:List (Int × List UInt8)} (h:okL L = true):∀ k i,i + k + 1 < L.length → noL L i < noL L (i + k + 1)
 | 0,i,hi=>by
   have h1:=okL_at h (i + 1) (by omega)
   have h2:(L.getD i (0,[])).1 < (L.getD (i + 1) (0,[])).1:=h1.1
   show (L.getD i (0,[])).1.toNat < (L.getD (i + 1) (0,[])).1.toNat
   have h3:=(okL_at h i (by omega)).2.1
   omega
 | k + 1,i,hi=>by
   have h1:=noL_lt h k i (by omega)
   have h2:=noL_lt h 0 (i + k + 1) (by omega)
   exact Nat.lt_trans h1 h2
theorem bit_bm {L:List (Int × List UInt8)} (h:okL L = true) (k:Nat):∀ i,i ≤ L.length → (bitL (bmE L i) k = true ↔ ∃ j,j < i ∧ noL L j - 1 = k)
 | 0,_=>by
   show bitL (List.replicate 16 0) k = true ↔ _
   rw [bit_zero]
   exact ⟨fun h=>(by cases h),fun ⟨j,hj,_⟩=>absurd hj (Nat.not_lt_zero j)⟩
 | i + 1,hi=>by
   have hr:=noL_rng h (i:=i) (by omega)
   show bitL (setLI (bmE L i) (noL L i - 1)) k = true ↔ _
   rw [bit_set _ _ _ (by rw [bmE_length];omega),Bool.or_eq_true,bit_bm h k i (by omega),decide_eq_true_eq]
   constructor
   · rintro (⟨j,hj,e⟩ | e)
     · exact ⟨j,by omega,e⟩
     · exact ⟨i,by omega,e.symm⟩
   · rintro ⟨j,hj,e⟩
     by_cases hji:j = i
     · subst hji;exact .inr e.symm
     · exact .inl ⟨j,by omega,e⟩
theorem bit_take (l:List UInt8) (n k:Nat) (h:k / 8 < n):bitL (l.take n) k = bitL l k:=by
 unfold bitL
 rw [List.getD_eq_getElem?_getD,List.getElem?_take,if_pos h,← List.getD_eq_getElem?_getD]
theorem bit_left (a b:List UInt8) (k:Nat) (h:k / 8 < a.length):bitL (a ++ b) k = bitL a k:=by
 unfold bitL
 rw [List.getD_eq_getElem?_getD,List.getElem?_append_left h,← List.getD_eq_getElem?_getD]
theorem sorted_ext:∀ (a b:List Nat),a.Pairwise (· < ·) → b.Pairwise (· < ·) → (∀ x,x ∈ a ↔ x ∈ b) → a = b
 | [],[],_,_,_=>rfl
 | [],y :: b,_,_,h=>absurd ((h y).2 List.mem_cons_self) (by simp)
 | x :: a,[],_,_,h=>absurd ((h x).1 List.mem_cons_self) (by simp)
 | x :: a,y :: b,ha,hb,h=>by
   rw [List.pairwise_cons] at ha hb
   have hxy:x = y:=by
     rcases List.mem_cons.1 ((h x).1 List.mem_cons_self) with e | e
     · exact e
     · rcases List.mem_cons.1 ((h y).2 List.mem_cons_self) with e2 | e2
       · exact e2.symm
       · have h1:=hb.1 x e
         have h2:=ha.1 y e2
         omega
   subst hxy
   rw [sorted_ext a b ha.2 hb.2 (fun z=>?_)]
   constructor
   · intro hz
     have h1:=ha.1 z hz
     rcases List.mem_cons.1 ((h z).1 (List.mem_cons_of_mem _ hz)) with e | e
     · omega
     · exact e
   · intro hz
     have h1:=hb.1 z hz
     rcases List.mem_cons.1 ((h z).2 (List.mem_cons_of_mem _ hz)) with e | e
     · omega
     · exact e
def nosL (L:List (Int × List UInt8)):List Nat:=(List.range L.length).map (noL L)
theorem nosL_length (L:List (Int × List UInt8)):(nosL L).length = L.length:=by unfold nosL;simp
theorem nosL_getD (L:List (Int × List UInt8)) (i:Nat) (hi:i < L.length):(nosL L).getD i 0 = noL L i:=by
 unfold nosL
 simp [List.getD_eq_getElem?_getD,hi]
theorem nosL_sorted {L:List (Int × List UInt8)} (h:okL L = true):(nosL L).Pairwise (· < ·):=by
 rw [List.pairwise_iff_getElem]
 intro i j hi hj hij
 rw [nosL_length] at hi hj
 have e:∀ k (hk:k < (nosL L).length),(nosL L)[k] = noL L k:=fun k hk=>by simp [nosL]
 rw [e,e]
 have:=noL_lt h (j - i - 1) i (by omega)
 rw [show i + (j - i - 1) + 1 = j from by omega] at this
 exact this
theorem nosL_mem (L:List (Int × List UInt8)) (x:Nat):x ∈ nosL L ↔ ∃ j,j < L.length ∧ noL L j = x:=by
 unfold nosL
 rw [List.mem_map]
 constructor
 · rintro ⟨j,hj,e⟩;exact ⟨j,List.mem_range.1 hj,e⟩
 · rintro ⟨j,hj,e⟩;exact ⟨j,List.mem_range.2 hj,e⟩
theorem bef_no {L:List (Int × List UInt8)} (h:okL L = true) (hn:0 < L.length):(bef L L.length).toNat = noL L (L.length - 1) ∧ 0 ≤ bef L L.length:=by
 obtain ⟨m,hm⟩:∃ m,L.length = m + 1:=⟨L.length - 1,by omega⟩
 have e:bef L L.length = (L.getD m (0,[])).1:=by rw [hm];rfl
 rw [e,hm]
 exact ⟨rfl,(okL_at h m (by omega)).2.1⟩
theorem mapsE_len (L:List (Int × List UInt8)):(mapsE L).length = if 64 < bef L L.length then 16 else 8:=by
 unfold mapsE
 split
 · rw [setLI_length,bmE_length]
 · rw [List.length_take,bmE_length];rfl
theorem bit_maps {L:List (Int × List UInt8)} (h:okL L = true) (k:Nat) (hk:k < 8 * (mapsE L).length):bitL (mapsE L) k = true ↔ (k = 0 ∧ 64 < bef L L.length) ∨ ∃ j,j < L.length ∧ noL L j - 1 = k:=by
 have hl:=mapsE_len L
 unfold mapsE at hk ⊢
 by_cases h64:64 < bef L L.length
 · rw [if_pos h64] at hk hl ⊢
   rw [bit_set _ _ _ (by rw [bmE_length];omega),Bool.or_eq_true,bit_bm h k _ (Nat.le_refl _),decide_eq_true_eq]
   constructor
   · rintro (e | e)
     · exact .inr e
     · exact .inl ⟨e,h64⟩
   · rintro (⟨e,-⟩ | e)
     · exact .inr e
     · exact .inl e
 · rw [if_neg h64] at hk hl ⊢
   rw [bit_take _ _ _ (by rw [List.length_take,bmE_length] at hk;omega),bit_bm h k _ (Nat.le_refl _)]
   constructor
   · exact .inr
   · rintro (⟨-,e⟩ | e)
     · exact absurd e h64
     · exact e
theorem no_le_maps {L:List (Int × List UInt8)} (h:okL L = true) {j:Nat} (hj:j < L.length):noL L j - 1 < 8 * (mapsE L).length:=by
 have h1:=no_nb h j hj
 have h2:=mapsE_len L
 unfold nbE at h1
 show (L.getD j (0,[])).1.toNat - 1 < _
 split at h1
 · rename_i h64;rw [if_pos h64] at h2;omega
 · rename_i h64;rw [if_neg h64] at h2;omega
theorem nos_maps {L:List (Int × List UInt8)} (h:okL L = true):nosTo (mapsE L) (8 * (mapsE L).length + 1) = nosL L:=by
 refine sorted_ext _ _ (List.Pairwise.filter _ List.pairwise_lt_range) (nosL_sorted h) (fun x=>?_)
 unfold nosTo
 rw [List.mem_filter,List.mem_range,nosL_mem,Bool.and_eq_true,decide_eq_true_eq]
 constructor
 · rintro ⟨hx,h2,hb⟩
   rcases (bit_maps h (x - 1) (by omega)).1 hb with ⟨e,-⟩ | ⟨j,hj,e⟩
   · omega
   · have:=noL_rng h hj
     exact ⟨j,hj,by omega⟩
 · rintro ⟨j,hj,rfl⟩
   have h1:=noL_rng h hj
   have h2:=no_le_maps h hj
   exact ⟨by omega,h1.1,(bit_maps h _ h2).2 (.inr ⟨j,hj,rfl⟩)⟩
theorem restE_pre (L:List (Int × List UInt8)):∀ k i,∃ t,restE L (i + k) = restE L i ++ t
 | 0,i=>⟨[],by simp⟩
 | k + 1,i=>by
   obtain ⟨t,e⟩:=restE_pre L k i
   exact ⟨t ++ (padL (kpD (L.getD (i + k) (0,[])).1.toNat) (L.getD (i + k) (0,[])).2.length ++ (L.getD (i + k) (0,[])).2),by
     show restE L (i + k) ++ _ = _
     rw [e,List.append_assoc]
     rfl⟩
theorem padL_dig:∀ d n,(padL d n).all dig = true
 | 0,_=>rfl
 | d + 1,n=>by
   unfold padL
   rw [List.all_append,padL_dig d,Bool.true_and]
   have h10:n % 10 < 10:=Nat.mod_lt _ (by omega)
   have hx:(UInt8.ofNat (48 + n % 10)).toNat = 48 + n % 10:=by rw [UInt8.toNat_ofNat'];omega
   simp only [List.all_cons,List.all_nil,Bool.and_true]
   unfold dig
   rw [hx,decide_eq_true (by omega),decide_eq_true (by omega)]
   rfl
theorem padL_num:∀ d n,n < 10 ^ d → numL (padL d n) = n
 | 0,n,h=>by
   have:n = 0:=by simpa using h
   subst this
   rfl
 | d + 1,n,h=>by
   have h10:n % 10 < 10:=Nat.mod_lt _ (by omega)
   have hx:(UInt8.ofNat (48 + n % 10)).toNat = 48 + n % 10:=by rw [UInt8.toNat_ofNat'];omega
   have ih:=padL_num d (n / 10) (by rw [Nat.pow_succ] at h;omega)
   unfold padL numL
   rw [List.foldl_append]
   show numL (padL d (n / 10)) * 10 + ((UInt8.ofNat (48 + n % 10)).toNat - 48) = n
   rw [ih,hx]
   omega
theorem kp_two:∀ n ∈ tabNos,(n = 2 ∨ n = 48) ∨ (kpD n = 0 ∧ kpM n = kpL n):=by decide
theorem pad_fitB:∀ n ∈ tabNos,kpM n < 10 ^ kpD n ∨ kpD n = 0:=by decide
theorem fld_back (no:Nat) (hm:no ∈ tabNos) (d t:List UInt8) (hf:fitsN (kpL no) (kpM no) (kpOk no) d = true):fldC no (padL (kpD no) d.length ++ d ++ t) = 0 ∧ fldD no (padL (kpD no) d.length ++ d ++ t) = d ∧ fldE no (padL (kpD no) d.length ++ d ++ t) = kpD no + d.length:=by
 have hlen:kpL no ≤ d.length ∧ d.length ≤ kpM no:=by
   have h:=hf
   unfold fitsN at h
   rw [Bool.and_eq_true,decide_eq_true_eq] at h
   exact h.1
 have hpl:=padL_length (kpD no) d.length
 have htk:(padL (kpD no) d.length ++ d ++ t).take (kpD no) = padL (kpD no) d.length:=by
   rw [List.append_assoc,List.take_append_of_le_length (by omega),List.take_of_length_le (by omega)]
 have hdr:(padL (kpD no) d.length ++ d ++ t).drop (kpD no) = d ++ t:=by
   rw [List.append_assoc,List.drop_append_of_le_length (by omega),List.drop_of_length_le (by omega),List.nil_append]
 have hsz:kpS no (padL (kpD no) d.length) = d.length ∧ kpB no (padL (kpD no) d.length) = true:=by
   unfold kpS kpB
   rcases kp_two no hm with h2 | ⟨h0,hMl⟩
   · rw [if_pos h2,if_pos h2]
     have hn:d.length < 10 ^ kpD no:=by
       rcases pad_fitB no hm with h | h
       · omega
       · rcases h2 with rfl | rfl <;> exact absurd h (by decide)
     unfold szN sdN
     rw [padL_dig,if_pos rfl,padL_num _ _ hn,Bool.true_and,decide_eq_true hlen]
     exact ⟨rfl,rfl⟩
   · by_cases h2:no = 2 ∨ no = 48
     · exfalso
       rcases h2 with rfl | rfl <;> exact absurd h0 (by decide)
     · rw [if_neg h2,if_neg h2]
       exact ⟨by omega,rfl⟩
 have hC:fldC no (padL (kpD no) d.length ++ d ++ t) = 0:=by
   unfold fldC fC
   rw [if_neg (by rw [List.length_append,List.length_append];omega),htk,hsz.2,if_neg (by decide),hsz.1,if_neg (by rw [List.length_append,List.length_append];omega),hdr,List.take_left,if_pos hf]
 have hC2:=hC
 unfold fldC at hC2
 refine ⟨hC,?_,?_⟩
 · unfold fldD fD
   rw [if_pos hC2,htk,hdr,hsz.1,List.take_left]
 · unfold fldE fE
   rw [if_pos hC2,htk,hsz.1]
theorem len_append3 (a b c:List UInt8):(a ++ b ++ c).length = a.length + b.length + c.length:=by rw [List.length_append,List.length_append]
theorem maps_nonempty (L:List (Int × List UInt8)):8 ≤ (mapsE L).length ∧ (mapsE L).length ≤ 16:=by
 rw [mapsE_len]
 split <;> omega
theorem mapEnd_enc {L:List (Int × List UInt8)} (h:okL L = true) (S:List UInt8) (hS:S.length = 4):mapEnd (S ++ mapsE L ++ restE L L.length) = 4 + (mapsE L).length ∧ ((S ++ mapsE L ++ restE L L.length).drop 4).take (mapsE L).length = mapsE L:=by
 have hd:(S ++ mapsE L ++ restE L L.length).drop 4 = mapsE L ++ restE L L.length:=by
   rw [List.append_assoc,← hS,List.drop_left]
 have hm:=maps_nonempty L
 refine ⟨?_,by rw [hd,List.take_left]⟩
 unfold mapEnd
 rw [hd,bit_left _ _ _ (by omega)]
 have hl:=mapsE_len L
 by_cases h64:64 < bef L L.length
 · rw [if_pos h64] at hl
   rw [if_pos ((bit_maps h 0 (by omega)).2 (.inl ⟨rfl,h64⟩)),hl]
 · rw [if_neg h64] at hl
   rw [if_neg,hl]
   intro hb
   rcases (bit_maps h 0 (by omega)).1 hb with ⟨-,e⟩ | ⟨j,hj,e⟩
   · exact h64 e
   · have:=noL_rng h hj
     omega
theorem lastN_nos {L:List (Int × List UInt8)} (hn:0 < L.length):lastN (nosL L) = noL L (L.length - 1):=by
 obtain ⟨m,hm⟩:∃ m,L.length = m + 1:=⟨L.length - 1,by omega⟩
 unfold nosL
 rw [hm,List.range_succ,List.map_append]
 exact lastN_snoc _ _
theorem map_enc {L:List (Int × List UInt8)} (h:okL L = true) (S:List UInt8) (hS:S.length = 4):mapC (S ++ mapsE L ++ restE L L.length) = 0 ∧ mapN (S ++ mapsE L ++ restE L L.length) = nosL L ∧ mapE (S ++ mapsE L ++ restE L L.length) = 4 + (mapsE L).length:=by
 obtain ⟨hE,hT⟩:=mapEnd_enc h S hS
 have hN:nosOf (S ++ mapsE L ++ restE L L.length) = nosL L:=by
   unfold nosOf
   rw [hE,show 4 + (mapsE L).length - 4 = (mapsE L).length from by omega,hT]
   exact nos_maps h
 have hC:mapC (S ++ mapsE L ++ restE L L.length) = 0:=by
   unfold mapC
   rw [hE,hN,if_neg (by rw [len_append3];omega),if_neg,if_neg]
   · rintro ⟨h1,h2⟩
     have hl:=mapsE_len L
     by_cases h64:64 < bef L L.length
     · have hn:0 < L.length:=by
         by_cases h0:L.length = 0
         · rw [h0] at h64;exact absurd h64 (show ¬ (64:Int) < 0 by decide)
         · omega
       rw [lastN_nos hn] at h2
       have:=bef_no h hn
       omega
     · rw [if_neg h64] at hl
       omega
   · have:inTab (nosL L) = true:=by
       unfold inTab
       rw [List.all_eq_true]
       intro x hx
       obtain ⟨j,hj,rfl⟩:=(nosL_mem L x).1 hx
       rw [decide_eq_true_eq]
       exact noL_tab h hj
     rw [this]
     decide
 refine ⟨hC,?_,?_⟩
 · unfold mapN;rw [if_pos hC,hN]
 · unfold mapE;rw [if_pos hC,hE]
theorem drop_enc (L:List (Int × List UInt8)) (S:List UInt8) (hS:S.length = 4) (i:Nat) (hi:i < L.length):∃ t,(S ++ mapsE L ++ restE L L.length).drop (4 + (mapsE L).length + (restE L i).length) = padL (kpD (noL L i)) (L.getD i (0,[])).2.length ++ (L.getD i (0,[])).2 ++ t:=by
 obtain ⟨t,ht⟩:=restE_pre L (L.length - (i + 1)) (i + 1)
 rw [show i + 1 + (L.length - (i + 1)) = L.length from by omega] at ht
 refine ⟨t,?_⟩
 have e:S ++ mapsE L ++ restE L L.length = (S ++ mapsE L ++ restE L i) ++ (padL (kpD (noL L i)) (L.getD i (0,[])).2.length ++ (L.getD i (0,[])).2 ++ t):=by
   rw [ht]
   show _ = _
   rw [show restE L (i + 1) = restE L i ++ (padL (kpD (noL L i)) (L.getD i (0,[])).2.length ++ (L.getD i (0,[])).2) from rfl]
   simp only [List.append_assoc]
 rw [e]
 exact List.drop_left' (by rw [len_append3,hS])
theorem dec_enc {L:List (Int × List UInt8)} (h:okL L = true) (S:List UInt8) (hS:S.length = 4):∀ i,i ≤ L.length → decAt (S ++ mapsE L ++ restE L L.length) (nosL L) (4 + (mapsE L).length) i = 4 + (mapsE L).length + (restE L i).length ∧ (∀ j,j < i → fc (S ++ mapsE L ++ restE L L.length) (nosL L) (4 + (mapsE L).length) j = 0 ∧ fldD ((nosL L).getD j 0) ((S ++ mapsE L ++ restE L L.length).drop (decAt (S ++ mapsE L ++ restE L L.length) (nosL L) (4 + (mapsE L).length) j)) = (L.getD j (0,[])).2)
 | 0,_=>⟨rfl,fun j hj=>absurd hj (Nat.not_lt_zero j)⟩
 | i + 1,hi=>by
   obtain ⟨h1,h2⟩:=dec_enc h S hS i (by omega)
   obtain ⟨t,ht⟩:=drop_enc L S hS i (by omega)
   obtain ⟨-,-,h3,h4⟩:=okL_at h i (by omega)
   obtain ⟨f1,f2,f3⟩:=fld_back (noL L i) h3 (L.getD i (0,[])).2 t h4
   have hg:=nosL_getD L i (by omega)
   refine ⟨?_,fun j hj=>?_⟩
   · show decAt _ _ _ i + fldE ((nosL L).getD i 0) (List.drop (decAt _ _ _ i) _) = _
     rw [h1,hg,ht,f3]
     show _ = 4 + (mapsE L).length + (restE L i ++ (padL (kpD (noL L i)) (L.getD i (0,[])).2.length ++ (L.getD i (0,[])).2)).length
     rw [List.length_append,List.length_append,padL_length]
     omega
   · by_cases hji:j = i
     · subst hji
       unfold fc
       rw [h1,hg,ht]
       exact ⟨f1,f2⟩
     · exact h2 j (by omega)
theorem enc_back (s:ByteArray) (L:List (Int × List UInt8)) (h1:(decide (s.size = 4) && digs s) = true) (h:okL L = true):dC (encLI s L) = 0 ∧ dM (encLI s L) = s ∧ dL (encLI s L) = (List.range L.length).map (fun j=>(noL L j,(L.getD j (0,[])).2)) ∧ dE (encLI s L) = (encLI s L).length ∧ (encLI s L).length = 4 + (mapsE L).length + (restE L L.length).length:=by
 have hs:=h1
 rw [Bool.and_eq_true,decide_eq_true_eq] at hs
 rw [encL_good s L h1 h]
 obtain ⟨S,hSe⟩:∃ S,S = s.data.toList:=⟨_,rfl⟩
 have hS:S.length = 4:=by rw [hSe,Array.length_toList];exact hs.1
 rw [← hSe]
 have hdg:S.all dig = true:=by rw [hSe];exact hs.2
 obtain ⟨m1,m2,m3⟩:=map_enc h S hS
 obtain ⟨d1,d2⟩:=dec_enc h S hS L.length (Nat.le_refl _)
 obtain ⟨D,hD⟩:∃ D,D = S ++ mapsE L ++ restE L L.length:=⟨_,rfl⟩
 have hlen:D.length = 4 + (mapsE L).length + (restE L L.length).length:=by rw [hD,len_append3,hS]
 have htk:D.take 4 = S:=by rw [hD,List.append_assoc,← hS,List.take_left]
 rw [← hD] at m1 m2 m3 d1 d2 ⊢
 have hm:=maps_nonempty L
 have h14:=okL_len h
 have hr:=restE_small L L.length (fun j hj=>by
   unfold okL at h
   rw [List.all_eq_true] at h
   exact h j (List.mem_range.2 hj))
 have h203:=Nat.mul_le_mul_right 203 h14
 have hty:tyC D = 0:=by unfold tyC;rw [if_neg (by omega),htk,if_pos hdg]
 have hbad:bad D (mapN D) (mapE D) = none:=bad_none _ _ _ (fun j hj=>by rw [m2,m3] at *;rw [nosL_length] at hj;exact (d2 j hj).1)
 have hdE:dE D = D.length:=by
   unfold dE
   rw [m2,m3,nosL_length,d1,hlen]
 have hC:dC D = 0:=by
   unfold dC
   rw [if_neg (by omega),if_neg (by rw [hty];decide),if_neg (by rw [m1];decide),hbad]
   show (if dE D < D.length then 5 else 0) = 0
   rw [hdE,if_neg (Nat.lt_irrefl _)]
 refine ⟨hC,?_,?_,hdE,hlen⟩
 · unfold dM
   rw [if_pos hC,htk,hSe]
 · unfold dL
   rw [if_pos hC,m2,m3,nosL_length]
   unfold decF
   apply List.map_congr_left
   intro j hj
   rw [List.mem_range] at hj
   rw [(d2 j hj).2,nosL_getD L j hj]
theorem dC_zeroB {data:List UInt8} (h:dC data = 0):data.length ≤ 4096 ∧ tyC data = 0 ∧ mapC data = 0 ∧ (∀ j,j < (mapN data).length → fc data (mapN data) (mapE data) j = 0) ∧ ¬ dE data < data.length:=by
 unfold dC at h
 by_cases h1:4096 < data.length
 · rw [if_pos h1] at h;omega
 rw [if_neg h1] at h
 by_cases h2:tyC data ≠ 0
 · rw [if_pos h2] at h;exact absurd h h2
 rw [if_neg h2] at h
 by_cases h3:mapC data ≠ 0
 · rw [if_pos h3] at h;exact absurd h h3
 rw [if_neg h3] at h
 cases hb:bad data (mapN data) (mapE data) with
 | none =>
   rw [hb] at h
   refine ⟨by omega,by omega,by omega,fun j hj=>?_,fun hlt=>?_⟩
   · unfold bad at hb
     rw [List.find?_eq_none] at hb
     have:=hb j (List.mem_range.2 hj)
     simpa using this
   · have h5:(if dE data < data.length then 5 else 0) = 0:=h
     rw [if_pos hlt] at h5
     omega
 | some i =>
   exfalso
   rw [hb] at h
   unfold bad at hb
   have:=List.find?_some hb
   simp at this
   exact this h
def dLI (data:List UInt8):List (Int × List UInt8):=(dL data).map (fun (p:Nat × List UInt8)=>((p.1:Int),p.2))
theorem bef_snoc (L:List (Int × List UInt8)) (p:Int × List UInt8) (j:Nat) (h:j ≤ L.length):bef (L ++ [p]) j = bef L j:=by
 cases j with
 | zero=>rfl
 | succ j=>show ((L ++ [p]).getD j (0,[])).1 = (L.getD j (0,[])).1;rw [getD_left _ _ _ _ (by omega)]
theorem okL_snoc {L:List (Int × List UInt8)} {p:Int × List UInt8} (h:okL L = true) (hp:okF (bef L L.length) p = true):okL (L ++ [p]) = true:=by
 refine okL_yes _ (fun j hj=>?_)
 rw [List.length_append] at hj
 have hj2:j < L.length + 1:=hj
 rw [bef_snoc _ _ _ (by omega)]
 by_cases hc:j < L.length
 · rw [getD_left _ _ _ _ hc]
   unfold okL at h
   rw [List.all_eq_true] at h
   exact h j (List.mem_range.2 hc)
 · have e:j = L.length:=by omega
   rw [getD_last _ _ _ _ e,e]
   exact hp
theorem cast_back {L:List (Int × List UInt8)} (h:okL L = true):((List.range L.length).map (fun j=>(noL L j,(L.getD j (0,[])).2))).map (fun (p:Nat × List UInt8)=>((p.1:Int),p.2)) = L:=by
 apply List.ext_getElem
 · simp
 · intro j h1 h2
   have hj:j < L.length:=h2
   have hr:=noL_rng h hj
   have he:((noL L j:Nat):Int) = (L.getD j (0,[])).1:=by
     unfold noL at hr ⊢
     omega
   simp only [List.getElem_map,List.getElem_range]
   rw [he]
   rw [List.getD_eq_getElem?_getD,List.getElem?_eq_getElem hj]
   rfl
theorem bef_end (K:List (Int × List UInt8)) (p:Int × List UInt8):bef (K ++ [p]) (K.length + 1) = p.1:=by
 show ((K ++ [p]).getD K.length (0,[])).1 = _
 rw [getD_last _ _ _ _ rfl]
theorem len_snoc (K:List (Int × List UInt8)) (p:Int × List UInt8):(K ++ [p]).length = K.length + 1:=by rw [List.length_append];rfl
theorem getD_snoc1 (K:List (Int × List UInt8)) (no:Int) (a b:List UInt8) (i:Nat) (h:i ≤ K.length):((K ++ [(no,a)]).getD i (0,[])).1 = ((K ++ [(no,b)]).getD i (0,[])).1:=by
 by_cases hc:i < K.length
 · rw [getD_left _ _ _ _ hc,getD_left _ _ _ _ hc]
 · rw [getD_last _ _ _ _ (by omega),getD_last _ _ _ _ (by omega)]
theorem bitsE_same (K:List (Int × List UInt8)) (no:Int) (a b:List UInt8):∀ i,i ≤ K.length + 1 → bitsE (K ++ [(no,a)]) i = bitsE (K ++ [(no,b)]) i
 | 0,_=>by
   show (if 64 < bef (K ++ [(no,a)]) (K ++ [(no,a)]).length then _ else _) = (if 64 < bef (K ++ [(no,b)]) (K ++ [(no,b)]).length then _ else _)
   rw [len_snoc,len_snoc,bef_end,bef_end]
 | i + 1,h=>by
   show (bitsE (K ++ [(no,a)]) i).set _ 1 = (bitsE (K ++ [(no,b)]) i).set _ 1
   rw [bitsE_same K no a b i (by omega),getD_snoc1 K no a b i (by omega)]
theorem restE_left (K:List (Int × List UInt8)) (p:Int × List UInt8):∀ i,i ≤ K.length → restE (K ++ [p]) i = restE K i
 | 0,_=>rfl
 | i + 1,h=>by
   show restE (K ++ [p]) i ++ _ = restE K i ++ _
   rw [restE_left K p i (by omega),getD_left _ _ _ _ (by omega)]
theorem restE_snoc (K:List (Int × List UInt8)) (no:Int) (m:List UInt8) (h:no = 64 ∨ no = 128):restE (K ++ [(no,m)]) (K.length + 1) = restE K K.length ++ m:=by
 show restE (K ++ [(no,m)]) K.length ++ (padL (kpD ((K ++ [(no,m)]).getD K.length (0,[])).1.toNat) ((K ++ [(no,m)]).getD K.length (0,[])).2.length ++ ((K ++ [(no,m)]).getD K.length (0,[])).2) = _
 rw [restE_left _ _ _ (Nat.le_refl _),getD_last _ _ _ _ rfl]
 have e:padL (kpD no.toNat) m.length = []:=by rcases h with rfl | rfl <;> rfl
 show _ ++ (padL (kpD no.toNat) m.length ++ m) = _
 rw [e]
 rfl
def aheadK (s:ByteArray) (K:List (Int × List UInt8)) (no:Int):List UInt8:=s.data.toList ++ unbitsL (bitsE (K ++ [(no,zeroM)]) (K.length + 1)) ++ restE K K.length
theorem enc_mac (s:ByteArray) (K:List (Int × List UInt8)) (no:Int) (m:List UInt8) (h:no = 64 ∨ no = 128) (h1:(decide (s.size = 4) && digs s) = true) (hok:okL (K ++ [(no,m)]) = true):encLI s (K ++ [(no,m)]) = aheadK s K no ++ m:=by
 have hl:=okL_len hok
 unfold encLI okE aheadK
 rw [if_pos (by rw [h1,hok,decide_eq_true (by omega)];rfl),len_snoc,restE_snoc K no m h,bitsE_same K no m zeroM _ (Nat.le_refl _),List.append_assoc,List.append_assoc,List.append_assoc]
theorem okL_mac {K:List (Int × List UInt8)} {no:Int} (hno:no = 64 ∨ no = 128) (hK:okL K = true) (hb:bef K K.length < no) (m:List UInt8) (hm:m.length = 8):okL (K ++ [(no,m)]) = true:=by
 refine okL_snoc hK ?_
 unfold okF fitZ inZ
 have hf:∀ n:Nat,n = 64 ∨ n = 128 → fitsN (kpL n) (kpM n) (kpOk n) m = true:=by
   intro n hn
   have e:kpL n = 8 ∧ kpM n = 8 ∧ kpOk n = okAny:=by rcases hn with rfl | rfl <;> exact ⟨rfl,rfl,rfl⟩
   rw [e.1,e.2.1,e.2.2]
   unfold fitsN
   rw [hm,show ∀ l:List UInt8,l.all okAny = true from fun l=>List.all_eq_true.2 (fun _ _=>rfl)]
   rfl
 rw [Bool.and_eq_true]
 refine ⟨decide_eq_true hb,?_⟩
 show (decide (0 ≤ no) && decide (no.toNat ∈ tabNos) && fitsN (kpL no.toNat) (kpM no.toNat) (kpOk no.toNat) m) = true
 rw [hf no.toNat (by omega)]
 rcases hno with rfl | rfl <;> rfl
theorem sealNo_two (L:List (Int × List UInt8)):sealNo L = 64 ∨ sealNo L = 128:=by unfold sealNo;split <;> simp
theorem dA_mac (s:ByteArray) (K:List (Int × List UInt8)) (no:Int) (m:List UInt8) (hm:m.length = 8) (h:no = 64 ∨ no = 128) (h1:(decide (s.size = 4) && digs s) = true) (hok:okL (K ++ [(no,m)]) = true):dA (aheadK s K no ++ m) = (aheadK s K no).length:=by
 have hs:=h1
 rw [Bool.and_eq_true,decide_eq_true_eq] at hs
 have hS:s.data.toList.length = 4:=by rw [Array.length_toList];exact hs.1
 obtain ⟨e1,-⟩:=enc_back s _ h1 hok
 have he:=enc_mac s K no m h h1 hok
 have hg:=encL_good s _ h1 hok
 rw [he] at e1 hg
 have hlen:=congrArg List.length hg
 rw [List.length_append,List.length_append,List.length_append,hS,len_snoc,restE_snoc K no m h,List.length_append,hm] at hlen
 obtain ⟨-,mN,mE⟩:=map_enc hok s.data.toList hS
 have hd:=dec_enc hok s.data.toList hS K.length (by rw [len_snoc];omega)
 rw [← hg] at mN mE hd
 have hnl:(nosL (K ++ [(no,m)])).length = K.length + 1:=by rw [nosL_length,len_snoc]
 unfold dA
 rw [if_pos e1,mN,mE,hnl]
 show macP ((nosL (K ++ [(no,m)])).getD K.length 0) (decAt (aheadK s K no ++ m) (nosL (K ++ [(no,m)])) (4 + (mapsE (K ++ [(no,m)])).length) K.length) = _
 rw [hd.1,nosL_getD _ _ (by rw [len_snoc];omega),restE_left _ _ _ (Nat.le_refl _)]
 have hn:noL (K ++ [(no,m)]) K.length = 64 ∨ noL (K ++ [(no,m)]) K.length = 128:=by
   unfold noL
   rw [getD_last _ _ _ _ rfl]
   rcases h with rfl | rfl
   · exact .inl rfl
   · exact .inr rfl
 unfold macP
 rw [if_pos hn]
 omega
theorem op_mac (master key:List UInt8) (s:ByteArray) (K:List (Int × List UInt8)) (no:Int) (m:List UInt8) (hm:m.length = 8) (h:no = 64 ∨ no = 128) (h1:(decide (s.size = 4) && digs s) = true) (hok:okL (K ++ [(no,m)]) = true) (hc:macC master key (aheadK s K no) = 0):opB master key (aheadK s K no ++ m) = decide (macL master key (aheadK s K no) = m):=by
 have hA:=dA_mac s K no m hm h h1 hok
 obtain ⟨e1,-,-,-,e5⟩:=enc_back s _ h1 hok
 rw [enc_mac s K no m h h1 hok] at e1 e5
 have hne:(aheadK s K no).length ≠ 0:=by
   have hg:=(maps_nonempty (K ++ [(no,m)])).1
   rw [List.length_append,hm,len_snoc,restE_snoc K no m h,List.length_append,hm] at e5
   omega
 unfold opB chkC
 rw [e1,hA,List.take_left,List.drop_left,hc,decide_eq_true hne]
 by_cases hq:macL master key (aheadK s K no) = m
 · rw [if_neg (by simp [hq]),decide_eq_true hq];rfl
 · rw [if_pos ⟨rfl,hq⟩,decide_eq_false hq];rfl
theorem dec_mac (s:ByteArray) (K:List (Int × List UInt8)) (no:Int) (m:List UInt8) (h:no = 64 ∨ no = 128) (h1:(decide (s.size = 4) && digs s) = true) (hok:okL (K ++ [(no,m)]) = true):dC (aheadK s K no ++ m) = 0 ∧ dM (aheadK s K no ++ m) = s ∧ dLI (aheadK s K no ++ m) = K ++ [(no,m)] ∧ (aheadK s K no ++ m).length ≤ 4096:=by
 obtain ⟨e1,e2,e3,-,-⟩:=enc_back s _ h1 hok
 rw [enc_mac s K no m h h1 hok] at e1 e2 e3
 refine ⟨e1,e2,?_,(dC_zeroB e1).1⟩
 unfold dLI
 rw [e3]
 exact cast_back hok
theorem seal_is (master key:List UInt8) (s:ByteArray) (L:List (Int × List UInt8)) (h1:(decide (s.size = 4) && digs s) = true) (hok:okL (sealF L) = true) (hc:macC master key (aheadK s (keepF L) (sealNo L)) = 0):sealL master key s L = aheadK s (keepF L) (sealNo L) ++ macL master key (aheadK s (keepF L) (sealNo L)):=by
 have he:encLI s (sealF L) = aheadK s (keepF L) (sealNo L) ++ zeroM:=enc_mac s (keepF L) (sealNo L) zeroM (sealNo_two L) h1 hok
 have ha:aheadL s L = aheadK s (keepF L) (sealNo L):=by
   unfold aheadL
   rw [he,List.length_append,show zeroM.length = 8 from rfl,Nat.add_sub_cancel,List.take_left]
 unfold sealL
 rw [ha,he,if_neg (by intro e;have:=congrArg List.length e;rw [List.length_append] at this;simp [zeroM] at this),if_pos hc]
theorem mac_wrapped (M Ky D:List UInt8) (gen:Nat) (hm:M.length = 16) (hk:Ky.length = 16) (hg:gen ≤ 255) (hd:D.length ≤ 4096):macC M (wrapN M Ky 2 gen) D = 0 ∧ macL M (wrapN M Ky 2 gen) D = retailL Ky D:=by
 obtain ⟨h1,h2,h3,h4,h5⟩:=wrap_open M Ky 2 gen hm hk (by omega) (by omega) hg
 have hv:=open_vals h1 h2
 have ho:okM M (wrapN M Ky 2 gen) = true:=by
   unfold okM okO
   rw [h1,h2,hv.2.1,h3]
   rfl
 unfold macC macL
 rw [ho,h5]
 simp [hd]
theorem own_room {w:World} {base n c:Nat} {a:Option Addr} {l:List UInt8} (h:Own w base (.slice a n c) l):l.length ≤ c:=by
 obtain ⟨t,h⟩:=h
 rcases h.2 with ⟨hv,hn⟩ | ⟨g,cap,cur,hv,-,-,hn,-⟩
 · omega
 · simp only [Value.slice.injEq] at hv;omega
end Go.Proofs.YtbkokcjolanpeaaGreatDoor
