import Derived.Test.YtoajfbkblpaejaaGreatDoorReadP
import Derived.Laws.BytesString
import Derived.Laws.BytesArg
import Derived.Test.YtoajfbkblpaejaaGreatDoorOpenM
namespace Go.Proofs.YtoajfbkblpaejaaGreatDoor
open Go.RowKit
theorem nib_of (x:UInt8) (a b:Nat) (ha:a < 16) (hb:b < 16):(x ^^^ ofN (16 * a + b)).toNat / 16 = (x.toNat / 16) ^^^ a ∧ (x ^^^ ofN (16 * a + b)).toNat % 16 = (x.toNat % 16) ^^^ b:=by
 have e:(ofN (16 * a + b)).toNat = 16 * a + b:=by unfold ofN;rw [UInt8.toNat_ofNat'];omega
 rw [UInt8.toNat_xor,e]
 have h1:=Nat.xor_div_two_pow (a:=x.toNat) (b:=16 * a + b) (n:=4)
 have h2:=Nat.xor_mod_two_pow (a:=x.toNat) (b:=16 * a + b) (n:=4)
 rw [show (2:Nat) ^ 4 = 16 from rfl] at h1 h2
 rw [h1,h2,show (16 * a + b) / 16 = a from by omega,show (16 * a + b) % 16 = b from by omega]
 exact ⟨rfl,rfl⟩
theorem ofN_xor (a b:Nat) (ha:a < 16) (hb:b < 16):ofN (a ^^^ b) = ofN a ^^^ ofN b:=by
 apply UInt8.toNat.inj
 rw [UInt8.toNat_xor]
 unfold ofN
 rw [UInt8.toNat_ofNat',UInt8.toNat_ofNat',UInt8.toNat_ofNat',Nat.mod_eq_of_lt (by omega:a < 2 ^ 8),Nat.mod_eq_of_lt (by omega:b < 2 ^ 8)]
 exact Nat.mod_eq_of_lt (Nat.lt_of_lt_of_le (Nat.xor_lt_two_pow (n:=4) (by omega) (by omega)) (by omega))
theorem nib_eq (bs:List UInt8) (es:List Nat) (h8:bs.length = 8) (he:es.length = 16) (hel:∀ d ∈ es,d < 16):xorL ((nibL bs).map ofN) (es.map ofN) = (nibL (xorL bs (blockN (wordH es)))).map ofN:=by
 match bs,h8 with
 | [x0,x1,x2,x3,x4,x5,x6,x7],_ =>
   match es,he with
   | [a,b,c,d,e,f,g,h,i,j,k,l,m,n,o,p],_ =>
     simp only [List.mem_cons,List.not_mem_nil,or_false,forall_eq_or_imp,forall_eq] at hel
     obtain ⟨ha,hb,hc,hd,he,hf,hg,hh,hi,hj,hk,hl,hm,hn,ho,hp⟩:=hel
     rw [word_pairs a b c d e f g h i j k l m n o p ha hb hc hd he hf hg hh hi hj hk hl hm hn ho hp]
     have q:∀ x:UInt8,x.toNat / 16 < 16 ∧ x.toNat % 16 < 16:=fun x=>by have:=x.toNat_lt;omega
     simp only [xorL,nibL,List.zipWith_cons_cons,List.zipWith_nil_left,List.flatMap_cons,List.flatMap_nil,List.map_cons,List.map_nil,List.append_nil,List.cons_append,List.nil_append,nib_of _ _ _ ha hb,nib_of _ _ _ hc hd,nib_of _ _ _ he hf,nib_of _ _ _ hg hh,nib_of _ _ _ hi hj,nib_of _ _ _ hk hl,nib_of _ _ _ hm hn,nib_of _ _ _ ho hp]
     rw [ofN_xor _ _ (q x0).1 ha,ofN_xor _ _ (q x0).2 hb,ofN_xor _ _ (q x1).1 hc,ofN_xor _ _ (q x1).2 hd,ofN_xor _ _ (q x2).1 he,ofN_xor _ _ (q x2).2 hf,ofN_xor _ _ (q x3).1 hg,ofN_xor _ _ (q x3).2 hh,ofN_xor _ _ (q x4).1 hi,ofN_xor _ _ (q x4).2 hj,ofN_xor _ _ (q x5).1 hk,ofN_xor _ _ (q x5).2 hl,ofN_xor _ _ (q x6).1 hm,ofN_xor _ _ (q x6).2 hn,ofN_xor _ _ (q x7).1 ho,ofN_xor _ _ (q x7).2 hp]
theorem news_new (w:World) (l:List Value) (t:Nat):∀ j u,l[j]? = some u → (w.alloc (.cells l.toArray t)).cell? ((⟨w.heap.size,0,none⟩:Addr).add j) = some u:=by
 intro j u hu
 obtain ⟨hj,he⟩:=List.getElem?_eq_some_iff.1 hu
 rw [Addr.add_mid,Nat.zero_add,(Blk.new w t l.toArray).cell j (by simpa using hj)]
 simp [he]
theorem text_snoc (l:List Nat) (d:Nat):textOf l ++ ⟨#[hexC d]⟩ = textOf (l ++ [d]):=by
 apply ByteArray.ext
 rw [ByteArray.data_append]
 simp [textOf]
theorem conv_one (d:Nat) (w:World) (h:d < 10):(convert 22 9 (.slice (some ⟨w.heap.size,0,none⟩) 1 1)).run Tryz.prog (w.alloc (.cells #[.int .u8 (48 + (d:Int))] 5)) = .ok (.string ⟨#[hexC d]⟩) (w.alloc (.cells #[.int .u8 (48 + (d:Int))] 5)):=by
 rw [run_convert_bytes_string _ 22 9 5 _ _ _ Tryz.underlying22 Tryz.underlying5 Tryz.underlying9]
 have hh:=run_bytesToString (P:=Tryz.prog) (w.alloc (.cells #[.int .u8 (48 + (d:Int))] 5)) ⟨w.heap.size,0,none⟩ 1 1 [48 + (d:Int)] (by
   have hl:=run_loadCells_list (P:=Tryz.prog) (w.alloc (.cells #[.int .u8 (48 + (d:Int))] 5)) ⟨w.heap.size,0,none⟩ [.int .u8 (48 + (d:Int))] (news_new w [.int .u8 (48 + (d:Int))] 5)
   exact hl)
 rw [hh]
 have e:(48 + (d:Int)).toNat = 48 + d:=by omega
 simp [hexC,h,e]
 rfl
end Go.Proofs.YtoajfbkblpaejaaGreatDoor
