import Derived.Test.YtoajfbkblpaejaaGreatDoorPinBits3
namespace Go.Proofs.YtoajfbkblpaejaaGreatDoor
open Go.RowKit
theorem nib_split:∀ a:Nat,a < 16 → ∀ b:Nat,b < 16 → ofN (16 * a + b) = ofN (16 * a) ^^^ ofN b:=by decide +kernel
theorem nib_high:∀ a:Nat,a < 16 → ∀ b:Nat,b < 16 → ofN (16 * a) ^^^ ofN (16 * b) = ofN (16 * (ofN a ^^^ ofN b).toNat) ∧ (ofN a ^^^ ofN b).toNat < 16:=by decide +kernel
theorem ofN_toNat (x:UInt8):ofN x.toNat = x:=by simp [ofN]
theorem nib_xor (a b c d:Nat) (ha:a < 16) (hb:b < 16) (hc:c < 16) (hd:d < 16):ofN (16 * (ofN a ^^^ ofN c).toNat + (ofN b ^^^ ofN d).toNat) = ofN (16 * a + b) ^^^ ofN (16 * c + d):=by
 have h1:=nib_high a ha c hc
 have h2:=nib_high b hb d hd
 rw [nib_split _ h1.2 _ h2.2,nib_split a ha b hb,nib_split c hc d hd,← h1.1,ofN_toNat]
 rw [UInt8.xor_assoc,UInt8.xor_assoc,← UInt8.xor_assoc (ofN b),UInt8.xor_comm (ofN b) (ofN (16 * c)),UInt8.xor_assoc]
theorem word_pairs (a b c d e f g h i j k l m n o p:Nat) (ha:a < 16) (hb:b < 16) (hc:c < 16) (hd:d < 16) (he:e < 16) (hf:f < 16) (hg:g < 16) (hh:h < 16) (hi:i < 16) (hj:j < 16) (hk:k < 16) (hl:l < 16) (hm:m < 16) (hn:n < 16) (ho:o < 16) (hp:p < 16) :
   blockN (wordH [a,b,c,d,e,f,g,h,i,j,k,l,m,n,o,p]) = [ofN (16 * a + b),ofN (16 * c + d),ofN (16 * e + f),ofN (16 * g + h),ofN (16 * i + j),ofN (16 * k + l),ofN (16 * m + n),ofN (16 * o + p)]:=by
 have hw:wordH [a,b,c,d,e,f,g,h,i,j,k,l,m,n,o,p] = wordN [ofN (16 * a + b),ofN (16 * c + d),ofN (16 * e + f),ofN (16 * g + h),ofN (16 * i + j),ofN (16 * k + l),ofN (16 * m + n),ofN (16 * o + p)]:=by
   simp only [wordH,wordN,List.foldl_cons,List.foldl_nil,ofN,UInt8.toNat_ofNat']
   omega
 rw [hw]
 exact block_word _ _ _ _ _ _ _ _
theorem pack_eq (ds es:List Nat) (hd:ds.length = 16) (he:es.length = 16) (hdl:∀ d ∈ ds,d < 16) (hel:∀ d ∈ es,d < 16):packL (xorL (ds.map ofN) (es.map ofN)) = xorL (blockN (wordH ds)) (blockN (wordH es)):=by
 match ds,hd with
 | [a,b,c,d,e,f,g,h,i,j,k,l,m,n,o,p],_ =>
   match es,he with
   | [a',b',c',d',e',f',g',h',i',j',k',l',m',n',o',p'],_ =>
     simp only [List.mem_cons,List.not_mem_nil,or_false,forall_eq_or_imp,forall_eq] at hdl hel
     obtain ⟨h1,h2,h3,h4,h5,h6,h7,h8,h9,h10,h11,h12,h13,h14,h15,h16⟩:=hdl
     obtain ⟨g1,g2,g3,g4,g5,g6,g7,g8,g9,g10,g11,g12,g13,g14,g15,g16⟩:=hel
     rw [word_pairs a b c d e f g h i j k l m n o p h1 h2 h3 h4 h5 h6 h7 h8 h9 h10 h11 h12 h13 h14 h15 h16,word_pairs a' b' c' d' e' f' g' h' i' j' k' l' m' n' o' p' g1 g2 g3 g4 g5 g6 g7 g8 g9 g10 g11 g12 g13 g14 g15 g16]
     simp only [xorL,List.map_cons,List.map_nil,List.zipWith_cons_cons,List.zipWith_nil_left]
     rw [← nib_xor a b a' b' h1 h2 g1 g2,← nib_xor c d c' d' h3 h4 g3 g4,← nib_xor e f e' f' h5 h6 g5 g6,← nib_xor g h g' h' h7 h8 g7 g8,← nib_xor i j i' j' h9 h10 g9 g10,← nib_xor k l k' l' h11 h12 g11 g12,← nib_xor m n m' n' h13 h14 g13 g14,← nib_xor o p o' p' h15 h16 g15 g16]
     rfl
theorem nib_lt (ds es:List Nat) (hdl:∀ d ∈ ds,d < 16) (hel:∀ d ∈ es,d < 16):∀ x ∈ xorL (ds.map ofN) (es.map ofN),x.toNat < 16:=by
 intro x hx
 unfold xorL at hx
 rw [List.zipWith_map] at hx
 obtain ⟨i,hi,rfl⟩:=List.getElem_of_mem hx
 rw [List.getElem_zipWith]
 exact (nib_high _ (hdl _ (List.getElem_mem _)) _ (hel _ (List.getElem_mem _))).2
theorem byte_ofN (d:Nat) (h:d < 256):byte (ofN d) = .int .u8 (d:Int):=by
 unfold byte ofN
 rw [UInt8.toNat_ofNat']
 congr 1
 omega
set_option maxRecDepth 100000 in
set_option maxHeartbeats 1000000 in
theorem makeS_bad (f:Int) (pin pan:ByteArray) (ao:Option Addr) (n cap:Nat) (w:World) (hp:pin.size ≤ maxLen) (hq:pan.size ≤ maxLen) (hg:goodPin f pin pan = false) :
   Calls Tryz.prog 53 #[.int .i64 f,.string pin,.string pan,.slice ao n cap] w fun e w'=>e = .returned (.agg #[.int .i64 1,.slice none 0 0,.int .i64 0]) ∧ Below w.heap.size w w':=by
 by_cases hf:f = 0 ∨ f = 3
 · have h1:(decide (f = 0) || decide (f = 3)) = true:=by simpa using hf
   have hcond:(f = 0) ∨ (¬ f = 0 ∧ f = 3):=by omega
   cases h2:(decide (4 ≤ pin.size) && decide (pin.size ≤ 12) && digs pin)
   · rcases hcond with h0 | ⟨h0,h30⟩
     · subst h0
       go_enter Tryz.func53,Tryz.ntmps53
       go_wp2_with (go_at_call 95;refine (l4Digits_any pin 4 12 _ hp (by omega) (by omega)).mono ?_;rintro e w2 ⟨rfl,hw2⟩;subst w2;rw [h2])
       exact bodyPost_ret (v:=.agg [.int .i64 1,.slice none 0 0,.int .i64 0].toArray) (results_blk Tryz.results53 _ _ rfl (show Blk _ _ 40 [.int .i64 1,.slice none 0 0,.int .i64 0] from Blk.new w 40 #[.int .i64 1,.slice none 0 0,.int .i64 0]) Tryz.underlying40 rfl (by kernel_rfl)) rfl ⟨rfl,(Below.refl _ w).alloc (Nat.le_refl _) _⟩
     · subst h30
       go_enter Tryz.func53,Tryz.ntmps53
       go_wp2_with (go_at_call 95;refine (l4Digits_any pin 4 12 _ hp (by omega) (by omega)).mono ?_;rintro e w2 ⟨rfl,hw2⟩;subst w2;rw [h2])
       exact bodyPost_ret (v:=.agg [.int .i64 1,.slice none 0 0,.int .i64 0].toArray) (results_blk Tryz.results53 _ _ rfl (show Blk _ _ 40 [.int .i64 1,.slice none 0 0,.int .i64 0] from Blk.new w 40 #[.int .i64 1,.slice none 0 0,.int .i64 0]) Tryz.underlying40 rfl (by kernel_rfl)) rfl ⟨rfl,(Below.refl _ w).alloc (Nat.le_refl _) _⟩
   · cases h3:(decide (13 ≤ pan.size) && decide (pan.size ≤ 19) && digs pan)
     · rcases hcond with h0 | ⟨h0,h30⟩
       · subst h0
         go_enter Tryz.func53,Tryz.ntmps53
         go_wp2_with (first | (go_at_call 95;refine (l4Digits_any pin 4 12 _ hp (by omega) (by omega)).mono ?_;rintro e w2 ⟨rfl,hw2⟩;subst w2;rw [h2]) | (go_at_call 92;refine (goodPan_any pan _ hq).mono ?_;rintro e w3 ⟨rfl,hw3⟩;subst w3;rw [h3]))
         exact bodyPost_ret (v:=.agg [.int .i64 1,.slice none 0 0,.int .i64 0].toArray) (results_blk Tryz.results53 _ _ rfl (show Blk _ _ 40 [.int .i64 1,.slice none 0 0,.int .i64 0] from Blk.new w 40 #[.int .i64 1,.slice none 0 0,.int .i64 0]) Tryz.underlying40 rfl (by kernel_rfl)) rfl ⟨rfl,(Below.refl _ w).alloc (Nat.le_refl _) _⟩
       · subst h30
         go_enter Tryz.func53,Tryz.ntmps53
         go_wp2_with (first | (go_at_call 95;refine (l4Digits_any pin 4 12 _ hp (by omega) (by omega)).mono ?_;rintro e w2 ⟨rfl,hw2⟩;subst w2;rw [h2]) | (go_at_call 92;refine (goodPan_any pan _ hq).mono ?_;rintro e w3 ⟨rfl,hw3⟩;subst w3;rw [h3]))
         exact bodyPost_ret (v:=.agg [.int .i64 1,.slice none 0 0,.int .i64 0].toArray) (results_blk Tryz.results53 _ _ rfl (show Blk _ _ 40 [.int .i64 1,.slice none 0 0,.int .i64 0] from Blk.new w 40 #[.int .i64 1,.slice none 0 0,.int .i64 0]) Tryz.underlying40 rfl (by kernel_rfl)) rfl ⟨rfl,(Below.refl _ w).alloc (Nat.le_refl _) _⟩
     · rw [goodPin,h1,h2,h3] at hg;cases hg
 · have h0:¬ f = 0:=fun h=>hf (.inl h)
   have h30:¬ f = 3:=fun h=>hf (.inr h)
   go_enter Tryz.func53,Tryz.ntmps53
   go_wp2_with fail
   exact bodyPost_ret (v:=.agg [.int .i64 1,.slice none 0 0,.int .i64 0].toArray) (results_blk Tryz.results53 _ _ rfl (show Blk _ _ 40 [.int .i64 1,.slice none 0 0,.int .i64 0] from Blk.new w 40 #[.int .i64 1,.slice none 0 0,.int .i64 0]) Tryz.underlying40 rfl (by kernel_rfl)) rfl ⟨rfl,(Below.refl _ w).alloc (Nat.le_refl _) _⟩
end Go.Proofs.YtoajfbkblpaejaaGreatDoor
