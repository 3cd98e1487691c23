import Derived.Test.YtbkokcjolanpeaaGreatDoorRgB
namespace Go.Proofs.YtbkokcjolanpeaaGreatDoor
open Go.RowKit
def powTab:List UInt8:=[1,3,5,15,17,51,85,255,26,46,114,150,161,248,19,53,95,225,56,72,216,115,149,164,247,2,6,10,30,34,102,170,
 229,52,92,228,55,89,235,38,106,190,217,112,144,171,230,49,83,245,4,12,20,60,68,204,79,209,104,184,211,110,178,205,
 76,212,103,169,224,59,77,215,98,166,241,8,24,40,120,136,131,158,185,208,107,189,220,127,129,152,179,206,73,219,118,154,
 181,196,87,249,16,48,80,240,11,29,39,105,187,214,97,163,254,25,43,125,135,146,173,236,47,113,147,174,233,32,96,160,
 251,22,58,78,210,109,183,194,93,231,50,86,250,21,63,65,195,94,226,61,71,201,64,192,91,237,44,116,156,191,218,117,
 159,186,213,100,172,239,42,126,130,157,188,223,122,142,137,128,155,182,193,88,232,35,101,175,234,37,111,177,200,67,197,84,
 252,31,33,99,165,244,7,9,27,45,119,153,176,203,70,202,69,207,74,222,121,139,134,145,168,227,62,66,198,81,243,14,
 18,54,90,238,41,123,141,140,143,138,133,148,167,242,13,23,57,75,221,124,132,151,162,253,28,36,108,180,199,82,246,1]
def subTab:List UInt8:=[99,124,119,123,242,107,111,197,48,1,103,43,254,215,171,118,202,130,201,125,250,89,71,240,173,212,162,175,156,164,114,192,
 183,253,147,38,54,63,247,204,52,165,229,241,113,216,49,21,4,199,35,195,24,150,5,154,7,18,128,226,235,39,178,117,
 9,131,44,26,27,110,90,160,82,59,214,179,41,227,47,132,83,209,0,237,32,252,177,91,106,203,190,57,74,76,88,207,
 208,239,170,251,67,77,51,133,69,249,2,127,80,60,159,168,81,163,64,143,146,157,56,245,188,182,218,33,16,255,243,210,
 205,12,19,236,95,151,68,23,196,167,126,61,100,93,25,115,96,129,79,220,34,42,144,136,70,238,184,20,222,94,11,219,
 224,50,58,10,73,6,36,92,194,211,172,98,145,149,228,121,231,200,55,109,141,213,78,169,108,86,244,234,101,122,174,8,
 186,120,37,46,28,166,180,198,232,221,116,31,75,189,139,138,112,62,181,102,72,3,246,14,97,53,87,185,134,193,29,158,
 225,248,152,17,105,217,142,148,155,30,135,233,206,85,40,223,140,161,137,13,191,230,66,104,65,153,45,15,176,84,187,22]
def invTab:List UInt8:=[82,9,106,213,48,54,165,56,191,64,163,158,129,243,215,251,124,227,57,130,155,47,255,135,52,142,67,68,196,222,233,203,
 84,123,148,50,166,194,35,61,238,76,149,11,66,250,195,78,8,46,161,102,40,217,36,178,118,91,162,73,109,139,209,37,
 114,248,246,100,134,104,152,22,212,164,92,204,93,101,182,146,108,112,72,80,253,237,185,218,94,21,70,87,167,141,157,132,
 144,216,171,0,140,188,211,10,247,228,88,5,184,179,69,6,208,44,30,143,202,63,15,2,193,175,189,3,1,19,138,107,
 58,145,17,65,79,103,220,234,151,242,207,206,240,180,230,115,150,172,116,34,231,173,53,133,226,249,55,232,28,117,223,110,
 71,241,26,113,29,41,197,137,111,183,98,14,170,24,190,27,252,86,62,75,198,210,121,32,154,219,192,254,120,205,90,244,
 31,221,168,51,136,7,199,49,177,18,16,89,39,128,236,95,96,81,127,169,25,181,74,13,45,229,122,159,147,201,156,239,
 160,224,59,77,174,42,245,176,200,235,187,60,131,83,153,97,23,43,4,126,186,119,214,38,225,105,20,99,85,33,12,125]
set_option maxRecDepth 100000 in
theorem powTab_length:powTab.length = 256:=by decide +kernel
set_option maxRecDepth 100000 in
theorem subTab_length:subTab.length = 256:=by decide +kernel
set_option maxRecDepth 100000 in
theorem invTab_length:invTab.length = 256:=by decide +kernel
def tXN (n:Nat):Nat:=(n * 2 % 256) ^^^ (n / 128 * 27)
def tXB (b:UInt8):UInt8:=UInt8.ofNat (tXN b.toNat)
theorem tXN_lt:∀ n:Nat,n < 256 → tXN n < 256:=by decide +kernel
theorem tXB_nat (b:UInt8):(tXB b).toNat = tXN b.toNat:=by
 have:=tXN_lt b.toNat b.toNat_lt
 simp [tXB];omega
def mulGo:Nat → Nat → Nat → Nat → Nat
 | 0,p,_,_=>p
 | f + 1,p,a,b=>mulGo f (if b % 2 = 1 then p ^^^ a else p) (tXN a) (b / 2)
def mulN (a b:Nat):Nat:=mulGo 8 0 a b
theorem mulGo_lt (f p a b:Nat) (hp:p < 256) (ha:a < 256):mulGo f p a b < 256:=by
 induction f generalizing p a b with
 | zero=>exact hp
 | succ f ih =>
   refine ih _ _ _ ?_ (tXN_lt a ha)
   split
   · exact Nat.xor_lt_two_pow (n:=8) hp ha
   · exact hp
theorem mulGo_zero (f p a:Nat):mulGo f p a 0 = p:=by
 induction f generalizing a with
 | zero=>rfl
 | succ f ih=>show mulGo f (if 0 % 2 = 1 then p ^^^ a else p) (tXN a) (0 / 2) = p;rw [if_neg (by decide)];exact ih _
def mulB (a b:UInt8):UInt8:=UInt8.ofNat (mulN a.toNat b.toNat)
theorem mulN_lt (a b:Nat) (ha:a < 256):mulN a b < 256:=mulGo_lt 8 0 a b (by decide) ha
theorem mulB_nat (a b:UInt8):(mulB a b).toNat = mulN a.toNat b.toNat:=by
 have:=mulN_lt a.toNat b.toNat a.toNat_lt
 simp [mulB];omega
def subB (b:UInt8):UInt8:=subTab.getD b.toNat 0
def unsubB (b:UInt8):UInt8:=invTab.getD b.toNat 0
def invGo (a:Nat):Nat → Nat × Nat
 | 0=>(a,1)
 | k + 1=>let x:=mulN (invGo a k).1 (invGo a k).1;(x,mulN (invGo a k).2 x)
def invN (a:Nat):Nat:=(invGo a 7).2
theorem invGo_lt (a k:Nat) (ha:a < 256):(invGo a k).1 < 256 ∧ (invGo a k).2 < 256:=by
 induction k with
 | zero=>exact ⟨ha,(by decide:1 < 256)⟩
 | succ k ih=>exact ⟨mulN_lt _ _ ih.1,mulN_lt _ _ ih.2⟩
def turn8 (x k:Nat):Nat:=x * 2 ^ k % 256 ||| x / 2 ^ (8 - k)
def affN (c:Nat):Nat:=c ^^^ turn8 c 1 ^^^ turn8 c 2 ^^^ turn8 c 3 ^^^ turn8 c 4 ^^^ 99
def colOf (a b c d:Nat):Nat:=a * 16777216 + b * 65536 + c * 256 + d
def mixT (n:Nat):Nat:=colOf (tXN (subTab.getD n 0).toNat) (subTab.getD n 0).toNat (subTab.getD n 0).toNat (tXN (subTab.getD n 0).toNat ^^^ (subTab.getD n 0).toNat)
def unmixT (n:Nat):Nat:=colOf (tXN (tXN (tXN n)) ^^^ tXN (tXN n) ^^^ tXN n) (tXN (tXN (tXN n)) ^^^ n) (tXN (tXN (tXN n)) ^^^ tXN (tXN n) ^^^ n) (tXN (tXN (tXN n)) ^^^ tXN n ^^^ n)
def colN (T:Nat → Nat) (s:List UInt8) (c:Nat):Nat → Nat
 | 0=>0
 | k + 1=>colN T s c k ^^^ rotN (T (s.getD (4 * c + k) 0).toNat) (32 - 8 * k)
def mixCols (T:Nat → Nat) (s:List UInt8):List UInt8:=(List.range 16).map fun j=>UInt8.ofNat (colN T s (j / 4) 4 / 2 ^ (24 - 8 * (j % 4)))
theorem mixCols_length (T:Nat → Nat) (s:List UInt8):(mixCols T s).length = 16:=by simp [mixCols]
def mulSum (row s:List UInt8) (c i:Nat):Nat → UInt8
 | 0=>0
 | k + 1=>mulSum row s c i k ^^^ mulB (s.getD (4 * c + k) 0) (row.getD ((k + 4 - i) % 4) 0)
def mixS (row s:List UInt8):List UInt8:=(List.range 16).map fun j=>mulSum row s (j / 4) (j % 4) 4
theorem mixS_length (row s:List UInt8):(mixS row s).length = 16:=by simp [mixS]
theorem ofNat_xor_div (a b p:Nat):UInt8.ofNat ((a ^^^ b) / 2 ^ p) = UInt8.ofNat (a / 2 ^ p) ^^^ UInt8.ofNat (b / 2 ^ p):=by
 apply UInt8.toNat_inj.1
 rw [UInt8.toNat_xor]
 simp only [UInt8.toNat_ofNat']
 rw [← Nat.shiftRight_eq_div_pow,← Nat.shiftRight_eq_div_pow,← Nat.shiftRight_eq_div_pow,Nat.shiftRight_xor_distrib]
 exact Nat.xor_mod_two_pow
def rowE:List UInt8:=[2,3,1,1]
def rowD:List UInt8:=[14,11,13,9]
set_option maxRecDepth 100000 in
theorem mix_entry:∀ n:Nat,n < 256 → ∀ k:Nat,k < 4 → ∀ i:Nat,i < 4 → rotN (mixT n) (32 - 8 * k) / 2 ^ (24 - 8 * i) % 256 = mulN (subTab.getD n 0).toNat (rowE.getD ((k + 4 - i) % 4) 0).toNat:=by decide +kernel
set_option maxRecDepth 100000 in
theorem unmix_entry:∀ n:Nat,n < 256 → ∀ k:Nat,k < 4 → ∀ i:Nat,i < 4 → rotN (unmixT n) (32 - 8 * k) / 2 ^ (24 - 8 * i) % 256 = mulN n (rowD.getD ((k + 4 - i) % 4) 0).toNat:=by decide +kernel
theorem col_eq (T:Nat → Nat) (f:UInt8 → UInt8) (row s:List UInt8) (h:∀ x:UInt8,∀ k,k < 4 → ∀ i,i < 4 → rotN (T x.toNat) (32 - 8 * k) / 2 ^ (24 - 8 * i) % 256 = mulN (f x).toNat (row.getD ((k + 4 - i) % 4) 0).toNat)
   (c i k:Nat) (hs:s.length = 16) (hc:c < 4) (hi:i < 4) (hk:k ≤ 4):UInt8.ofNat (colN T s c k / 2 ^ (24 - 8 * i)) = mulSum row (s.map f) c i k:=by
 induction k with
 | zero=>show UInt8.ofNat (0 / 2 ^ (24 - 8 * i)) = 0;rw [Nat.zero_div];rfl
 | succ k ih =>
   show UInt8.ofNat ((colN T s c k ^^^ rotN (T (s.getD (4 * c + k) 0).toNat) (32 - 8 * k)) / 2 ^ (24 - 8 * i)) = mulSum row (s.map f) c i k ^^^ mulB ((s.map f).getD (4 * c + k) 0) (row.getD ((k + 4 - i) % 4) 0)
   rw [ofNat_xor_div,ih (by omega)]
   congr 1
   have e:(s.map f).getD (4 * c + k) 0 = f (s.getD (4 * c + k) 0):=by
     have hl:4 * c + k < s.length:=by omega
     simp [hl]
   rw [e]
   apply UInt8.toNat_inj.1
   rw [mulB_nat,← h (s.getD (4 * c + k) 0) k (by omega) i hi]
   simp
theorem mixCols_eq (s:List UInt8) (hs:s.length = 16):mixCols mixT s = mixS rowE (s.map subB):=by
 unfold mixCols mixS
 apply List.map_congr_left
 intro j hj
 have hj:=List.mem_range.1 hj
 exact col_eq mixT subB rowE s (fun x k hk i hi=>mix_entry x.toNat x.toNat_lt k hk i hi) (j / 4) (j % 4) 4 hs (by omega) (by omega) (by omega)
theorem unmix_eq (s:List UInt8) (hs:s.length = 16):mixCols unmixT s = mixS rowD s:=by
 unfold mixCols mixS
 apply List.map_congr_left
 intro j hj
 have hj:=List.mem_range.1 hj
 have:=col_eq unmixT id rowD s (fun x k hk i hi=>unmix_entry x.toNat x.toNat_lt k hk i hi) (j / 4) (j % 4) 4 hs (by omega) (by omega) (by omega)
 rwa [List.map_id] at this
def turnL (by_:Nat) (s:List UInt8):List UInt8:=(List.range 16).map fun i=>s.getD ((i + 4 * by_ * (i % 4)) % 16) 0
theorem turnL_length (b:Nat) (s:List UInt8):(turnL b s).length = 16:=by simp [turnL]
theorem turnL_map (f:UInt8 → UInt8) (b:Nat) (s:List UInt8) (hs:s.length = 16):(turnL b s).map f = turnL b (s.map f):=by
 unfold turnL
 rw [List.map_map]
 apply List.map_congr_left
 intro i _
 have hl:(i + 4 * b * (i % 4)) % 16 < s.length:=by omega
 simp [hl]
theorem turn_at (b i:Nat) (hb:b = 1 ∨ b = 3) (_hi:i < 16):4 * ((i / 4 + b * (i % 4)) % 4) + i % 4 = (i + 4 * b * (i % 4)) % 16:=by
 rcases hb with rfl | rfl <;> omega
def word0 (pw:UInt8) (l:List UInt8):List UInt8:=[subB (l.getD 13 0) ^^^ pw,subB (l.getD 14 0),subB (l.getD 15 0),subB (l.getD 12 0)]
def wordAt (pw:UInt8) (l:List UInt8):Nat → List UInt8
 | 0=>word0 pw l
 | i + 1=>(wordAt pw l i).set (i % 4) ((wordAt pw l i).getD (i % 4) 0 ^^^ l.getD i 0)
theorem wordAt_length (pw:UInt8) (l:List UInt8) (i:Nat):(wordAt pw l i).length = 4:=by
 induction i with
 | zero=>rfl
 | succ i ih=>simp [wordAt,ih]
def nextK (pw:UInt8) (l:List UInt8):List UInt8:=(List.range 16).map fun i=>(wordAt pw l (i + 1)).getD (i % 4) 0
theorem nextK_length (pw:UInt8) (l:List UInt8):(nextK pw l).length = 16:=by simp [nextK]
def powB:Nat → UInt8
 | 0=>1
 | r + 1=>tXB (powB r)
def keyR (key:List UInt8):Nat → List UInt8
 | 0=>key
 | r + 1=>nextK (powB r) (keyR key r)
theorem keyR_length (key:List UInt8) (h:key.length = 16) (r:Nat):(keyR key r).length = 16:=by
 cases r with
 | zero=>exact h
 | succ r=>exact nextK_length _ _
def subUpto:Nat → List UInt8
 | 0=>(List.replicate 256 (0:UInt8)).set 0 99
 | k + 1=>(subUpto k).set (powTab.getD k 0).toNat (UInt8.ofNat (affN (powTab.getD (255 - k) 0).toNat))
theorem subUpto_length (k:Nat):(subUpto k).length = 256:=by
 induction k with
 | zero=>show ((List.replicate 256 (0:UInt8)).set 0 99).length = 256;rw [List.length_set,List.length_replicate]
 | succ k ih=>show ((subUpto k).set _ _).length = 256;rw [List.length_set,ih]
def invUpto:Nat → List UInt8
 | 0=>List.replicate 256 (0:UInt8)
 | k + 1=>(invUpto k).set (subTab.getD k 0).toNat (UInt8.ofNat k)
theorem invUpto_length (k:Nat):(invUpto k).length = 256:=by
 induction k with
 | zero=>show (List.replicate 256 (0:UInt8)).length = 256;rw [List.length_replicate]
 | succ k ih=>show ((invUpto k).set _ _).length = 256;rw [List.length_set,ih]
set_option maxRecDepth 100000 in
theorem pow_step:∀ i:Nat,i < 255 → (powTab.getD (i + 1) 0).toNat = (powTab.getD i 0).toNat ^^^ tXN (powTab.getD i 0).toNat:=by decide +kernel
set_option maxRecDepth 100000 in
theorem subUpto_all:subUpto 256 = subTab:=by decide +kernel
set_option maxRecDepth 100000 in
theorem invUpto_all:invUpto 256 = invTab:=by decide +kernel
set_option maxRecDepth 100000 in
theorem sub_aff:∀ n:Nat,n < 256 → affN (invN n) = (subTab.getD n 0).toNat:=by decide +kernel
theorem tX_mul:∀ n:Nat,n < 256 → mulN n 2 = tXN n:=by decide +kernel
set_option maxRecDepth 100000 in
set_option maxHeartbeats 400000 in
theorem timesX_any (n:Nat) (w:World) (hn:n < 256) :
   Calls Tryz.prog 165 #[.int .u8 n] w fun e w'=>e = .returned (.int .u8 (tXN n:Nat)) ∧ w' = w:=by
 go_enter Tryz.func165,Tryz.ntmps165
 go_wp2
 go_ret
 refine ⟨ret_int ?_,rfl⟩
 revert n
 decide +kernel
set_option maxRecDepth 100000 in
set_option maxHeartbeats 400000 in
theorem rotl8_at (x k:Nat) (ki:Int) (w:World) (hx:x < 256) (hki:ki = (k:Int)) (hk:1 ≤ k) (hk4:k ≤ 4) :
   Calls Tryz.prog 203 #[.int .u8 x,.int .i64 ki] w fun e w'=>e = .returned (.int .u8 (turn8 x k:Nat)) ∧ w' = w:=by
 obtain ⟨rfl,rfl⟩ | ⟨rfl,rfl⟩ | ⟨rfl,rfl⟩ | ⟨rfl,rfl⟩:(k = 1 ∧ ki = 1) ∨ (k = 2 ∧ ki = 2) ∨ (k = 3 ∧ ki = 3) ∨ (k = 4 ∧ ki = 4):=by omega
 all_goals
   clear hk hk4 hki
   have h1:bits BinOp.and IntKind.u64 1 7 = 1:=by decide
   have h2:bits BinOp.and IntKind.u64 2 7 = 2:=by decide
   have h3:bits BinOp.and IntKind.u64 3 7 = 3:=by decide
   have h4:bits BinOp.and IntKind.u64 4 7 = 4:=by decide
   go_enter Tryz.func203,Tryz.ntmps203
   go_wp2
   go_ret
   refine ⟨ret_int ?_,rfl⟩
   revert x
   decide +kernel
def affI (n:Nat):Nat → Nat
 | 0=>n ^^^ 99
 | k + 1=>affI n k ^^^ turn8 n (k + 1)
theorem turn8_lt (n k:Nat) (hn:n < 256):turn8 n k < 256:=by
 unfold turn8
 have hd:n / 2 ^ (8 - k) ≤ n:=Nat.div_le_self _ _
 exact Nat.or_lt_two_pow (n:=8) (by omega) (by omega)
theorem affI_lt (n k:Nat) (hn:n < 256):affI n k < 256:=by
 induction k with
 | zero=>exact Nat.xor_lt_two_pow (n:=8) hn (by decide)
 | succ k ih=>exact Nat.xor_lt_two_pow (n:=8) ih (turn8_lt n _ hn)
set_option maxRecDepth 100000 in
theorem affI_all:∀ n:Nat,n < 256 → affI n 4 = affN n:=by decide +kernel
set_option maxHeartbeats 400000 in
theorem subOf_any (n:Nat) (w:World) (hn:n < 256) :
   Calls Tryz.prog 166 #[.int .u8 n] w fun e w'=>e = .returned (.int .u8 (affN n:Nat)) ∧ w' = w:=by
 have h0:bits BinOp.xor IntKind.u8 (n:Int) 99 = ((affI n 0:Nat):Int):=u8_xor_nat n 99 hn (by decide)
 go_enter Tryz.func166,Tryz.ntmps166
 go_wp2
 go_loopw [3,4] (fun s i wr=>∃ k:Nat,k ≤ 4 ∧ i = .int .i64 ((k:Int) + 1) ∧ s = .int .u8 (affI n k:Nat) ∧ wr = w) (fun _ i _=>5 - (intOf i).toNat)
 case atStart=>exact ⟨0,by omega,rfl,rfl,rfl⟩
 case round =>
   clear h0
   obtain ⟨k,hk,rfl,rfl,hwr⟩:=hrel
   have Hwr:Hid (wr = w):=hwr
   clear hwr
   by_cases hlt:k < 4
   · have hkI:(k:Int) + 1 ≤ 4:=by omega
     have hx:bits BinOp.xor IntKind.u8 ((affI n k:Nat):Int) ((turn8 n (k + 1):Nat):Int) = ((affI n (k + 1):Nat):Int):=u8_xor_nat _ _ (affI_lt n k hn) (turn8_lt n _ hn)
     go_wp2_with (go_at_call 203;refine (rotl8_at n (k + 1) _ _ hn (by omega) (by omega) (by omega)).mono ?_;rintro e w' ⟨rfl,rfl⟩)
     go_roundw
     case rel=>exact ⟨k + 1,by omega,by go_num,rfl,Hwr.out⟩
     case measure=>simp [intOf];omega
   · obtain rfl:k = 4:=by omega
     have h4:Hid (affI n 4 = affN n):=affI_all n hn
     go_wp2
     go_ret
     exact ⟨ret_int (by rw [h4.out]),Hwr.out⟩
theorem Tryz.zero240:(Tryz.prog.info? 240).map (fun i=>(i.zero,i.size)) = some (some (.agg (zerosOf 256 .u8).toArray),256):=by kernel_rfl
def powC (i:Nat):Value:=byte (powTab.getD i 0)
theorem powC_all:(List.range 256).map powC = powTab.map byte:=by
 apply List.ext_getElem?
 intro i
 have hl:=powTab_length
 by_cases hi:i < 256
 · rw [List.getElem?_map,List.getElem?_map,List.getElem?_range hi,List.getElem?_eq_getElem (by omega)]
   simp [powC,show i < powTab.length from by omega]
 · rw [List.getElem?_eq_none (by simp;omega),List.getElem?_eq_none (by simp;omega)]
theorem upTo_cell {w:World} {g t:Nat} {f:Nat → Value} {z:Value} {n k:Nat} (h:Blk w g t (upTo f z n k)) (j:Nat) (hj:j < k) (hk:k ≤ n):w.cell? ⟨g,j,none⟩ = some (f j):=by
 rw [h.cell j (by rw [upTo_length];omega)]
 simp [upTo,hj]
theorem map_cell {w:World} {g t:Nat} {l:List UInt8} (h:Blk w g t (l.map byte)) (j:Nat) (hj:j < l.length):w.cell? ⟨g,j,none⟩ = some (.int .u8 ((l.getD j 0).toNat:Int)):=by
 rw [h.cell j (by simpa using hj)]
 simp [byte,hj]
theorem map_agg (l:List UInt8) (j:Nat) (hj:j < l.length):(l.map byte).toArray[j]? = some (.int .u8 ((l.getD j 0).toNat:Int)):=by
 simp [byte,hj]
set_option maxRecDepth 100000 in
set_option maxHeartbeats 1000000 in
theorem subTable_any (w:World) :
   Calls Tryz.prog 132 #[] w fun e w'=>e = .returned (.agg (subTab.map byte).toArray) ∧ Below w.heap.size w w':=by
 have hz:=(zero_of_info Tryz.zero240).1
 have hz0:(zerosOf 256 .u8)[0]? = some (.int .u8 0):=rfl
 go_enter Tryz.func132,Tryz.ntmps132
 go_wp2
 go_loopw [2] (fun i wr=>∃ k:Nat,1 ≤ k ∧ k ≤ 256 ∧ i = .int .i64 k ∧ Blk wr (w.heap.size + 1) 240 (upTo powC (.int .u8 0) 256 k) ∧ Blk wr w.heap.size 240 (zerosOf 256 .u8) ∧ Below w.heap.size w wr) (fun i _=>256 - (intOf i).toNat)
 case atStart =>
   refine ⟨1,by omega,by omega,rfl,?_,(Blk.new w _ _).alloc _,((Below.refl _ _).alloc (Nat.le_refl _) _).alloc (by simp) _⟩
   rw [← upTo_set,upTo_zero]
   exact Blk.new2 w _ _ _
 case round =>
   obtain ⟨k,hk1,hk,rfl,hb1,hb0,hbel⟩:=hrel
   by_cases hlt:k < 256
   · have hkI:(k:Int) < 256:=by omega
     obtain ⟨j,hj,hjl,hjI,Hj⟩:∃ j:Nat,IntKind.i64.wrap ((k:Int) - 1) = (j:Int) ∧ j < 256 ∧ (j:Int) < 256 ∧ Hid (k = j + 1):=⟨k - 1,by rw [IntKind.wrap_i64];omega,by omega,by omega,(by omega:k = k - 1 + 1)⟩
     obtain ⟨x,hx8,Hx⟩:∃ x:Nat,x < 256 ∧ Hid (x = (powTab.getD j 0).toNat):=⟨_,UInt8.toNat_lt _,rfl⟩
     have hc:wr.cell? ⟨w.heap.size + 1,j,none⟩ = some (.int .u8 (x:Int)):=by rw [upTo_cell hb1 j (by have:=Hj.out;omega) hk,Hx.out];rfl
     have hf:=hb1.free k
     obtain ⟨u,hu⟩:∃ u,wr.cell? ⟨w.heap.size + 1,k,none⟩ = some u:=⟨_,hb1.cell k (by rw [upTo_length];omega)⟩
     have hst:=hb1.set k (powC k)
     rw [upTo_set] at hst
     obtain ⟨y,hy,Hy⟩:∃ y:Nat,bits BinOp.xor IntKind.u8 (x:Int) ((tXN x:Nat):Int) = (y:Int) ∧ Hid (Value.int .u8 (y:Int) = powC k):=by
       refine ⟨_,u8_xor_nat x _ hx8 (tXN_lt x hx8),?_⟩
       show Value.int .u8 _ = byte _
       unfold byte
       rw [Hj.out,pow_step j (by have:=Hj.out;omega),← Hx.out]
     clear hk hk1
     go_wp2
     go_region_with (go_at_call 165;refine (timesX_any x _ hx8).mono ?_;rintro e w' ⟨rfl,rfl⟩)
     all_goals
       go_wp2
       all_goals
         go_roundw
         case rel =>
           rw [Hy.out]
           exact ⟨k + 1,by omega,by omega,by go_num,hst.drew1,(hb0.other _ _ (by simp)).drew1,(hbel.setCell (by simp) _).drew⟩
         case measure=>simp [intOf];omega
   · obtain rfl:k = 256:=by omega
     rw [upTo_all,powC_all] at hb1
     have h99:affN 0 = 99:=by decide +kernel
     obtain ⟨G,hG⟩:∃ G,G = wr.heap.size:=⟨_,rfl⟩
     have hGl:w.heap.size + 2 ≤ G:=by have:=hb1.lt;omega
     have hpl:(powTab.map byte).length = 256:=by rw [List.length_map,powTab_length]
     go_wp2_with (first | (go_at_call 166;refine (subOf_any 0 _ (by decide)).mono ?_;rintro e w' ⟨rfl,rfl⟩;rw [h99]) | (refine load_blk rfl 240 _ rfl _ rfl (hb1.alloc _) Tryz.underlying240 rfl (by rw [hpl];kernel_rfl) ?_))
     have L:Blk (wr.alloc (.cells ((zerosOf 256 .u8).set 0 (.int .u8 99)).toArray 240)) wr.heap.size 240 ((subUpto 0).map byte):=by
       have h:=Blk.new wr 240 ((zerosOf 256 .u8).set 0 (byte 99)).toArray
       show Blk _ _ _ (((List.replicate 256 (0:UInt8)).set 0 99).map byte)
       rw [List.map_set,List.map_replicate]
       exact h
     have Q1:=hb1.alloc (.cells ((zerosOf 256 .u8).set 0 (.int .u8 99)).toArray 240)
     have Q0:=hb0.alloc (.cells ((zerosOf 256 .u8).set 0 (.int .u8 99)).toArray 240)
     have QB:=hbel.alloc hbel.size (.cells ((zerosOf 256 .u8).set 0 (.int .u8 99)).toArray 240)
     rw [← hG] at L ⊢
     clear hb1 hb0 hbel hG
     go_loopw [4,5,26] (fun _ _ i wr=>∃ k:Nat,k ≤ 256 ∧ i = .int .i64 k ∧ Blk wr G 240 ((subUpto k).map byte) ∧ Blk wr (w.heap.size + 1) 240 (powTab.map byte) ∧ Blk wr w.heap.size 240 (zerosOf 256 .u8) ∧ Below w.heap.size w wr) (fun _ _ i _=>256 - (intOf i).toNat)
     case atStart=>exact ⟨0,by omega,rfl,L,Q1,Q0,QB⟩
     case round =>
       clear L Q1 Q0 QB
       obtain ⟨k,hk,rfl,hb2,hb1,hb0,hbel⟩:=hrel
       by_cases hlt:k < 256
       · have hpl2:=powTab_length
         obtain ⟨p,hp8,Hp⟩:∃ x:Nat,x < 256 ∧ Hid (x = (powTab.getD k 0).toNat):=⟨_,UInt8.toNat_lt _,rfl⟩
         obtain ⟨q,hq8,Hq⟩:∃ x:Nat,x < 256 ∧ Hid (x = (powTab.getD (255 - k) 0).toNat):=⟨_,UInt8.toNat_lt _,rfl⟩
         obtain ⟨j,hj,hjl,Hj⟩:∃ j:Nat,IntKind.i64.wrap (255 - (k:Int)) = (j:Int) ∧ j < 256 ∧ Hid (j = 255 - k):=⟨255 - k,by rw [IntKind.wrap_i64];omega,by omega,rfl⟩
         have hix:=run_index_agg (P:=Tryz.prog) Tryz.underlying240 Tryz.underlying5 rfl (by kernel_rfl) (powTab.map byte).toArray .i64 k hlt (.int .u8 (p:Int)) (by rw [map_agg powTab k (by omega),Hp.out])
         have hc:wr.cell? ⟨w.heap.size + 1,j,none⟩ = some (.int .u8 (q:Int)):=by rw [map_cell hb1 j (by omega),Hq.out,Hj.out]
         have hf:=hb2.free p
         have hsl:=subUpto_length k
         obtain ⟨u,hu⟩:∃ u,wr.cell? ⟨G,p,none⟩ = some u:=⟨_,hb2.cell p (by rw [List.length_map,hsl];exact hp8)⟩
         have hst:=hb2.set p (byte (UInt8.ofNat (affN q)))
         rw [← List.map_set] at hst
         have hst':Blk (wr.setCell ⟨G,p,none⟩ (byte (UInt8.ofNat (affN q)))) G 240 ((subUpto (k + 1)).map byte):=by
           rw [Hp.out,Hq.out] at hst ⊢
           exact hst
         have HV:Hid (Value.int .u8 ((affN q:Nat):Int) = byte (UInt8.ofNat (affN q))):=by
           show Value.int .u8 _ = Value.int .u8 _
           have h1:=affI_lt q 4 hq8
           rw [affI_all q hq8] at h1
           congr 1
           rw [UInt8.toNat_ofNat']
           omega
         have hkI:(k:Int) < 256:=by omega
         have hpI:(p:Int) < 256:=by omega
         have hjI:(j:Int) < 256:=by omega
         clear hst hsl hpl2
         go_wp2_with (go_at_call 166;refine (subOf_any q _ hq8).mono ?_;rintro e w' ⟨rfl,rfl⟩)
         go_roundw
         case rel =>
           rw [HV.out]
           exact ⟨k + 1,by omega,by go_num,hst',hb1.other _ _ (by simp;omega),hb0.other _ _ (by simp;omega),hbel.setCell (by simp;omega) _⟩
         case measure=>simp [intOf];omega
       · obtain rfl:k = 256:=by omega
         rw [subUpto_all] at hb2
         have hsl:(subTab.map byte).length = 256:=by rw [List.length_map,subTab_length]
         go_wp2_with (first | (refine load_blk rfl 240 _ rfl _ rfl hb2 Tryz.underlying240 rfl (by rw [hsl];kernel_rfl) ?_) | (refine store_blk rfl 240 _ _ rfl _ rfl rfl hb0 (by rw [hsl];kernel_rfl) (by rw [zerosOf_length,hsl]) (allOne_bytes _) ?_;intro w2 hb3 hg3 hs3))
         exact bodyPost_ret (v:=.agg (subTab.map byte).toArray) (results_blk Tryz.results132 _ _ rfl hb3 Tryz.underlying240 rfl (by rw [hsl];kernel_rfl)) rfl ⟨rfl,hbel.grown hg3 hbel.size (by intro k hk;cases hk;exact Nat.le_refl _)⟩
set_option maxRecDepth 100000 in
set_option maxHeartbeats 1000000 in
theorem inverseOf_any (w:World) :
   Calls Tryz.prog 135 #[.agg (subTab.map byte).toArray] w fun e w'=>e = .returned (.agg (invTab.map byte).toArray) ∧ Below w.heap.size w w':=by
 have hz:=(zero_of_info Tryz.zero240).1
 have hsl:(subTab.map byte).length = 256:=by rw [List.length_map,subTab_length]
 go_enter Tryz.func135,Tryz.ntmps135
 go_wp2_with (refine load_blk rfl 240 _ rfl _ rfl (((Blk.new w _ _).alloc _).alloc _) Tryz.underlying240 rfl (by rw [hsl];kernel_rfl) ?_)
 go_loopw [4,5,7] (fun _ _ i wr=>∃ k:Nat,k ≤ 256 ∧ i = .int .i64 k ∧ Blk wr (w.heap.size + 1 + 1) 240 ((invUpto k).map byte) ∧ Blk wr (w.heap.size + 1) 240 (zerosOf 256 .u8) ∧ Below w.heap.size w wr) (fun _ _ i _=>256 - (intOf i).toNat)
 case atStart =>
   refine ⟨0,by omega,rfl,?_,(Blk.new2 w _ _ _).alloc _,(((Below.refl _ _).alloc (Nat.le_refl _) _).alloc (by simp) _).alloc (by simp;omega) _⟩
   show Blk _ _ _ ((List.replicate 256 (0:UInt8)).map byte)
   rw [List.map_replicate]
   exact Blk.newAt _ _ _ _ (by simp)
 case round =>
   obtain ⟨k,hk,rfl,hb2,hb0,hbel⟩:=hrel
   by_cases hlt:k < 256
   · have hsl2:=subTab_length
     obtain ⟨p,hp8,Hp⟩:∃ x:Nat,x < 256 ∧ Hid (x = (subTab.getD k 0).toNat):=⟨_,UInt8.toNat_lt _,rfl⟩
     have hix:=run_index_agg (P:=Tryz.prog) Tryz.underlying240 Tryz.underlying5 rfl (by kernel_rfl) (subTab.map byte).toArray .i64 k hlt (.int .u8 (p:Int)) (by rw [map_agg subTab k (by omega),Hp.out])
     have hf:=hb2.free p
     have hil:=invUpto_length k
     obtain ⟨u,hu⟩:∃ u,wr.cell? ⟨w.heap.size + 1 + 1,p,none⟩ = some u:=⟨_,hb2.cell p (by rw [List.length_map,hil];exact hp8)⟩
     have hst:=hb2.set p (byte (UInt8.ofNat k))
     rw [← List.map_set] at hst
     have hst':Blk (wr.setCell ⟨w.heap.size + 1 + 1,p,none⟩ (byte (UInt8.ofNat k))) (w.heap.size + 1 + 1) 240 ((invUpto (k + 1)).map byte):=by
       rw [Hp.out] at hst ⊢
       exact hst
     have HV:Hid (byte (UInt8.ofNat k) = Value.int .u8 (k:Int)):=by
       show Value.int .u8 _ = Value.int .u8 _
       congr 1
       rw [UInt8.toNat_ofNat']
       omega
     have hk8:IntKind.u8.wrap (k:Int) = (k:Int):=by rw [IntKind.wrap_u8];omega
     have hkI:(k:Int) < 256:=by omega
     have hpI:(p:Int) < 256:=by omega
     rw [HV.out] at hst'
     clear hst hil hsl2
     go_wp2
     go_roundw
     case rel =>
       exact ⟨k + 1,by omega,by go_num,hst',hb0.other _ _ (by simp),hbel.setCell (by simp;omega) _⟩
     case measure=>simp [intOf];omega
   · obtain rfl:k = 256:=by omega
     rw [invUpto_all] at hb2
     have hil:(invTab.map byte).length = 256:=by rw [List.length_map,invTab_length]
     go_wp2_with (first | (refine load_blk rfl 240 _ rfl _ rfl hb2 Tryz.underlying240 rfl (by rw [hil];kernel_rfl) ?_) | (refine store_blk rfl 240 _ _ rfl _ rfl rfl hb0 (by rw [hil];kernel_rfl) (by rw [zerosOf_length,hil]) (allOne_bytes _) ?_;intro w2 hb3 hg3 hs3))
     exact bodyPost_ret (v:=.agg (invTab.map byte).toArray) (results_blk Tryz.results135 _ _ rfl hb3 Tryz.underlying240 rfl (by rw [hil];kernel_rfl)) rfl ⟨rfl,hbel.grown hg3 hbel.size (by intro k hk;cases hk;omega)⟩
theorem colOf_lt (a b c d:Nat) (ha:a < 256) (hb:b < 256) (hc:c < 256) (hd:d < 256):colOf a b c d < 4294967296:=by
 unfold colOf;omega
set_option maxRecDepth 100000 in
set_option maxHeartbeats 400000 in
theorem columnOf_any (a b c d:Nat) (w:World) (ha:a < 256) (hb:b < 256) (hc:c < 256) (hd:d < 256) :
   Calls Tryz.prog 170 #[.int .u8 a,.int .u8 b,.int .u8 c,.int .u8 d] w fun e w'=>e = .returned (.int .u32 (colOf a b c d:Nat)) ∧ w' = w:=by
 obtain ⟨x1,h1,h1b,H1⟩:∃ x:Nat,bits BinOp.or IntKind.u32 ((a:Int) * 16777216) ((b:Int) * 65536) = (x:Int) ∧ x < 4294967296 ∧ Hid (x = a * 16777216 + b * 65536):=by
   refine ⟨a * 16777216 + b * 65536,?_,by omega,rfl⟩
   have e1:(a:Int) * 16777216 = ((a * 16777216:Nat):Int):=by omega
   have e2:(b:Int) * 65536 = ((b * 65536:Nat):Int):=by omega
   rw [e1,e2,u32_or_nat _ _ (by omega) (by omega),nat_join 24 (a * 16777216) (b * 65536) (by omega) (by omega)]
 obtain ⟨x2,h2,h2b,H2⟩:∃ x:Nat,bits BinOp.or IntKind.u32 (x1:Int) ((c:Int) * 256) = (x:Int) ∧ x < 4294967296 ∧ Hid (x = x1 + c * 256):=by
   have:=H1.out
   refine ⟨x1 + c * 256,?_,by omega,rfl⟩
   have e2:(c:Int) * 256 = ((c * 256:Nat):Int):=by omega
   rw [e2,u32_or_nat _ _ (by omega) (by omega),nat_join 16 x1 (c * 256) (by omega) (by omega)]
 obtain ⟨x3,h3,H3⟩:∃ x:Nat,bits BinOp.or IntKind.u32 (x2:Int) (d:Int) = (x:Int) ∧ Hid (x = colOf a b c d):=by
   have:=H1.out
   have:=H2.out
   refine ⟨colOf a b c d,?_,rfl⟩
   rw [u32_or_nat _ _ (by omega) (by omega),nat_join 8 x2 d (by omega) (by omega)]
   unfold colOf
   omega
 go_enter Tryz.func170,Tryz.ntmps170
 go_wp2
 go_ret
 exact ⟨ret_int (by rw [H3.out]),rfl⟩
def tabCells (T:Nat → Nat):List Value:=(List.range 256).map fun i=>word32 (T i)
theorem tabCells_length (T:Nat → Nat):(tabCells T).length = 256:=by simp [tabCells]
theorem allOne_tab (T:Nat → Nat):(tabCells T).toArray.all (·.oneCell') = true:=allOne_map _ (fun _=>rfl) _
theorem tab_cell {w:World} {S t n:Nat} {T:Nat → Nat} (h:Blk w S t (tabCells T)) (hn:n < 256):w.cell? ⟨S,n,none⟩ = some (.int .u32 (T n:Nat)):=by
 rw [h.cell n (by rw [tabCells_length];exact hn)]
 simp [tabCells,word32]
theorem Tryz.zero247:(Tryz.prog.info? 247).map (fun i=>(i.zero,i.size)) = some (some (.agg (zerosOf 256 .u32).toArray),256):=by kernel_rfl
theorem mixT_lt:∀ n:Nat,n < 256 → mixT n < 4294967296:=by
 intro n _
 have h:=(subTab.getD n 0).toNat_lt
 exact colOf_lt _ _ _ _ (tXN_lt _ h) h h (Nat.xor_lt_two_pow (n:=8) (tXN_lt _ h) h)
theorem unmixT_lt:∀ n:Nat,n < 256 → unmixT n < 4294967296:=by
 intro n h
 have h2:=tXN_lt n h
 have h4:=tXN_lt _ h2
 have h8:=tXN_lt _ h4
 have x:∀ a b:Nat,a < 256 → b < 256 → a ^^^ b < 256:=fun a b ha hb=>Nat.xor_lt_two_pow (n:=8) ha hb
 exact colOf_lt _ _ _ _ (x _ _ (x _ _ h8 h4) h2) (x _ _ h8 h) (x _ _ (x _ _ h8 h4) h) (x _ _ (x _ _ h8 h2) h)
set_option maxRecDepth 100000 in
set_option maxHeartbeats 1000000 in
theorem mixTable_any (w:World) :
   Calls Tryz.prog 137 #[.agg (subTab.map byte).toArray] w fun e w'=>e = .returned (.agg (tabCells mixT).toArray) ∧ Below w.heap.size w w':=by
 have hz:=(zero_of_info Tryz.zero247).1
 have hsl:(subTab.map byte).length = 256:=by rw [List.length_map,subTab_length]
 go_enter Tryz.func137,Tryz.ntmps137
 go_wp2_with (refine load_blk rfl 240 _ rfl _ rfl (((Blk.new w _ _).alloc _).alloc _) Tryz.underlying240 rfl (by rw [hsl];kernel_rfl) ?_)
 go_loopw [4,5,6,8] (fun _ _ _ i wr=>∃ k:Nat,k ≤ 256 ∧ i = .int .i64 k ∧ Blk wr (w.heap.size + 1 + 1) 247 (upTo (fun i=>word32 (mixT i)) (.int .u32 0) 256 k) ∧ Blk wr (w.heap.size + 1) 247 (zerosOf 256 .u32) ∧ Below w.heap.size w wr) (fun _ _ _ i _=>256 - (intOf i).toNat)
 case atStart =>
   refine ⟨0,by omega,rfl,?_,(Blk.new2 w _ _ _).alloc _,(((Below.refl _ _).alloc (Nat.le_refl _) _).alloc (by simp) _).alloc (by simp;omega) _⟩
   rw [upTo_zero]
   exact Blk.newAt _ _ _ _ (by simp)
 case round =>
   obtain ⟨k,hk,rfl,hb2,hb0,hbel⟩:=hrel
   by_cases hlt:k < 256
   · have hsl2:=subTab_length
     obtain ⟨p,hp8,Hp⟩:∃ x:Nat,x < 256 ∧ Hid (x = (subTab.getD k 0).toNat):=⟨_,UInt8.toNat_lt _,rfl⟩
     have hix:=run_index_agg (P:=Tryz.prog) Tryz.underlying240 Tryz.underlying5 rfl (by kernel_rfl) (subTab.map byte).toArray .i64 k hlt (.int .u8 (p:Int)) (by rw [map_agg subTab k (by omega),Hp.out])
     have hf:=hb2.free k
     obtain ⟨u,hu⟩:∃ u,wr.cell? ⟨w.heap.size + 1 + 1,k,none⟩ = some u:=⟨_,hb2.cell k (by rw [upTo_length];exact hlt)⟩
     have hst:=hb2.set k (word32 (mixT k))
     rw [upTo_set (fun i=>word32 (mixT i))] at hst
     obtain ⟨t,ht8,Ht⟩:∃ t:Nat,t < 256 ∧ Hid (t = tXN p):=⟨_,tXN_lt p hp8,rfl⟩
     obtain ⟨y,hy,hy8,Hy⟩:∃ y:Nat,bits BinOp.xor IntKind.u8 (t:Int) (p:Int) = (y:Int) ∧ y < 256 ∧ Hid (y = t ^^^ p):=⟨_,u8_xor_nat t p ht8 hp8,Nat.xor_lt_two_pow (n:=8) ht8 hp8,rfl⟩
     have HV:Hid (Value.int .u32 ((colOf t p p y:Nat):Int) = word32 (mixT k)):=by
       show Value.int .u32 _ = Value.int .u32 _
       rw [Hy.out,Ht.out,Hp.out]
       rfl
     have hkI:(k:Int) < 256:=by omega
     clear hsl2
     go_wp2_with (first
       | (go_at_call 165;refine (timesX_any p _ hp8).mono ?_;rintro e w' ⟨rfl,rfl⟩;rw [← Ht.out])
       | (go_at_call 170;refine (columnOf_any t p p y _ ht8 hp8 hp8 hy8).mono ?_;rintro e w' ⟨rfl,rfl⟩))
     go_roundw
     case rel =>
       rw [HV.out]
       exact ⟨k + 1,by omega,by go_num,hst,hb0.other _ _ (by simp),hbel.setCell (by simp;omega) _⟩
     case measure=>simp [intOf];omega
   · obtain rfl:k = 256:=by omega
     have hb2':Blk wr (w.heap.size + 1 + 1) 247 (tabCells mixT):=by rw [upTo_all] at hb2;exact hb2
     have hil:=tabCells_length mixT
     go_wp2_with (first | (refine load_blk rfl 247 _ rfl _ rfl hb2' Tryz.underlying247 rfl (by rw [hil];kernel_rfl) ?_) | (refine store_blk rfl 247 _ _ rfl _ rfl rfl hb0 (by rw [hil];kernel_rfl) (by rw [zerosOf_length,hil]) (allOne_tab _) ?_;intro w2 hb3 hg3 hs3))
     exact bodyPost_ret (v:=.agg (tabCells mixT).toArray) (results_blk Tryz.results137 _ _ rfl hb3 Tryz.underlying247 rfl (by rw [hil];kernel_rfl)) rfl ⟨rfl,hbel.grown hg3 hbel.size (by intro k hk;cases hk;omega)⟩
set_option maxRecDepth 100000 in
set_option maxHeartbeats 1000000 in
theorem unmixTable_any (w:World) :
   Calls Tryz.prog 138 #[] w fun e w'=>e = .returned (.agg (tabCells unmixT).toArray) ∧ Below w.heap.size w w':=by
 have hz:=(zero_of_info Tryz.zero247).1
 go_enter Tryz.func138,Tryz.ntmps138
 go_wp2
 go_loopw [2,3,4,5,6,7] (fun _ _ _ _ _ i wr=>∃ k:Nat,k ≤ 256 ∧ i = .int .i64 k ∧ Blk wr (w.heap.size + 1) 247 (upTo (fun i=>word32 (unmixT i)) (.int .u32 0) 256 k) ∧ Blk wr w.heap.size 247 (zerosOf 256 .u32) ∧ Below w.heap.size w wr) (fun _ _ _ _ _ i _=>256 - (intOf i).toNat)
 case atStart =>
   refine ⟨0,by omega,rfl,?_,(Blk.new w _ _).alloc _,((Below.refl _ _).alloc (Nat.le_refl _) _).alloc (by simp) _⟩
   rw [upTo_zero]
   exact Blk.new2 w _ _ _
 case round =>
   obtain ⟨k,hk,rfl,hb2,hb0,hbel⟩:=hrel
   by_cases hlt:k < 256
   · have hk8:IntKind.u8.wrap (k:Int) = (k:Int):=by rw [IntKind.wrap_u8];omega
     have hf:=hb2.free k
     obtain ⟨u,hu⟩:∃ u,wr.cell? ⟨w.heap.size + 1,k,none⟩ = some u:=⟨_,hb2.cell k (by rw [upTo_length];exact hlt)⟩
     have hst:=hb2.set k (word32 (unmixT k))
     rw [upTo_set (fun i=>word32 (unmixT i))] at hst
     obtain ⟨t,ht8,Ht⟩:∃ t:Nat,t < 256 ∧ Hid (t = tXN k):=⟨_,tXN_lt k hlt,rfl⟩
     obtain ⟨f,hf8,Hf⟩:∃ f:Nat,f < 256 ∧ Hid (f = tXN t):=⟨_,tXN_lt t ht8,rfl⟩
     obtain ⟨g,hg8,Hg⟩:∃ g:Nat,g < 256 ∧ Hid (g = tXN f):=⟨_,tXN_lt f hf8,rfl⟩
     have X:∀ a b:Nat,a < 256 → b < 256 → a ^^^ b < 256:=fun a b ha hb=>Nat.xor_lt_two_pow (n:=8) ha hb
     obtain ⟨a1,h1,h18,H1⟩:∃ y:Nat,bits BinOp.xor IntKind.u8 (g:Int) (f:Int) = (y:Int) ∧ y < 256 ∧ Hid (y = g ^^^ f):=⟨_,u8_xor_nat g f hg8 hf8,X _ _ hg8 hf8,rfl⟩
     obtain ⟨a2,h2,h28,H2⟩:∃ y:Nat,bits BinOp.xor IntKind.u8 (a1:Int) (t:Int) = (y:Int) ∧ y < 256 ∧ Hid (y = a1 ^^^ t):=⟨_,u8_xor_nat _ _ h18 ht8,X _ _ h18 ht8,rfl⟩
     obtain ⟨a3,h3,h38,H3⟩:∃ y:Nat,bits BinOp.xor IntKind.u8 (g:Int) (k:Int) = (y:Int) ∧ y < 256 ∧ Hid (y = g ^^^ k):=⟨_,u8_xor_nat _ _ hg8 hlt,X _ _ hg8 hlt,rfl⟩
     obtain ⟨a4,h4,h48,H4⟩:∃ y:Nat,bits BinOp.xor IntKind.u8 (a1:Int) (k:Int) = (y:Int) ∧ y < 256 ∧ Hid (y = a1 ^^^ k):=⟨_,u8_xor_nat _ _ h18 hlt,X _ _ h18 hlt,rfl⟩
     obtain ⟨a5,h5,h58,H5⟩:∃ y:Nat,bits BinOp.xor IntKind.u8 (g:Int) (t:Int) = (y:Int) ∧ y < 256 ∧ Hid (y = g ^^^ t):=⟨_,u8_xor_nat _ _ hg8 ht8,X _ _ hg8 ht8,rfl⟩
     obtain ⟨a6,h6,h68,H6⟩:∃ y:Nat,bits BinOp.xor IntKind.u8 (a5:Int) (k:Int) = (y:Int) ∧ y < 256 ∧ Hid (y = a5 ^^^ k):=⟨_,u8_xor_nat _ _ h58 hlt,X _ _ h58 hlt,rfl⟩
     have HV:Hid (Value.int .u32 ((colOf a2 a3 a4 a6:Nat):Int) = word32 (unmixT k)):=by
       show Value.int .u32 _ = Value.int .u32 _
       rw [H6.out,H5.out,H4.out,H3.out,H2.out,H1.out,Hg.out,Hf.out,Ht.out]
       rfl
     have hkI:(k:Int) < 256:=by omega
     clear X
     go_wp2_with fail
     refine (timesX_any k _ hlt).mono ?_
     rintro e w' ⟨rfl,rfl⟩
     rw [← Ht.out]
     go_wp2_with fail
     refine (timesX_any t _ ht8).mono ?_
     rintro e w' ⟨rfl,rfl⟩
     rw [← Hf.out]
     go_wp2_with fail
     refine (timesX_any f _ hf8).mono ?_
     rintro e w' ⟨rfl,rfl⟩
     rw [← Hg.out]
     go_wp2_with fail
     refine (columnOf_any a2 a3 a4 a6 _ h28 h38 h48 h68).mono ?_
     rintro e w' ⟨rfl,rfl⟩
     go_wp2
     go_roundw
     case rel =>
       rw [HV.out]
       exact ⟨k + 1,by omega,by go_num,hst,hb0.other _ _ (by simp),hbel.setCell (by simp) _⟩
     case measure=>simp [intOf];omega
   · obtain rfl:k = 256:=by omega
     have hb2':Blk wr (w.heap.size + 1) 247 (tabCells unmixT):=by rw [upTo_all] at hb2;exact hb2
     have hil:=tabCells_length unmixT
     go_wp2_with (first | (refine load_blk rfl 247 _ rfl _ rfl hb2' Tryz.underlying247 rfl (by rw [hil];kernel_rfl) ?_) | (refine store_blk rfl 247 _ _ rfl _ rfl rfl hb0 (by rw [hil];kernel_rfl) (by rw [zerosOf_length,hil]) (allOne_tab _) ?_;intro w2 hb3 hg3 hs3))
     exact bodyPost_ret (v:=.agg (tabCells unmixT).toArray) (results_blk Tryz.results138 _ _ rfl hb3 Tryz.underlying247 rfl (by rw [hil];kernel_rfl)) rfl ⟨rfl,hbel.grown hg3 hbel.size (by intro k hk;cases hk;exact Nat.le_refl _)⟩
theorem Tryz.z16:(Tryz.prog.info? 88).map (fun i=>(i.zero,i.size)) = some (some (.agg (zerosOf 16 .u8).toArray),16):=by kernel_rfl
set_option maxHeartbeats 400000 in
theorem byteChanger_any (tab:List UInt8) (w:World) :
   Calls Tryz.prog 134 #[.agg (tab.map byte).toArray] w fun e w'=>∃ S,e = .returned (.func (.func 167) #[] #[.pointer (some ⟨S,0,none⟩)]) ∧ w.heap.size ≤ S ∧ Blk w' S 240 (tab.map byte) ∧ Below w.heap.size w w':=by
 go_enter Tryz.func134,Tryz.ntmps134
 go_wp2
 go_ret
 exact ⟨_,rfl,Nat.le_refl _,Blk.new w _ _,(Below.refl _ _).alloc (Nat.le_refl _) _⟩
set_option maxHeartbeats 400000 in
theorem columnMixer_any (T:Nat → Nat) (w:World) :
   Calls Tryz.prog 136 #[.agg (tabCells T).toArray] w fun e w'=>∃ S,e = .returned (.func (.func 168) #[] #[.pointer (some ⟨S,0,none⟩)]) ∧ w.heap.size ≤ S ∧ Blk w' S 247 (tabCells T) ∧ Below w.heap.size w w':=by
 go_enter Tryz.func136,Tryz.ntmps136
 go_wp2
 go_ret
 exact ⟨_,rfl,Nat.le_refl _,Blk.new w _ _,(Below.refl _ _).alloc (Nat.le_refl _) _⟩
def chC (tab s:List UInt8) (i:Nat):Value:=byte (tab.getD (s.getD i 0).toNat 0)
theorem map_range16 (s:List UInt8) (f:UInt8 → UInt8) (hs:s.length = 16):(List.range 16).map (fun i=>byte (f (s.getD i 0))) = (s.map f).map byte:=by
 apply List.ext_getElem?
 intro i
 by_cases hi:i < 16
 · have:i < s.length:=by omega
   simp [hi,this]
 · rw [List.getElem?_eq_none (by simp;omega),List.getElem?_eq_none (by simp;omega)]
set_option maxRecDepth 100000 in
set_option maxHeartbeats 1000000 in
theorem changer_any (tab s:List UInt8) (S:Nat) (w:World) (ht:tab.length = 256) (hs:s.length = 16) (hS:Blk w S 240 (tab.map byte)) :
   Calls Tryz.prog 167 #[.agg (s.map byte).toArray,.pointer (some ⟨S,0,none⟩)] w fun e w'=>e = .returned (.agg ((s.map fun b=>tab.getD b.toNat 0).map byte).toArray) ∧ Below w.heap.size w w':=by
 have hz:=(zero_of_info Tryz.z16).1
 have hsl:(s.map byte).length = 16:=by rw [List.length_map,hs]
 have hSl:=hS.lt
 go_enter Tryz.func167,Tryz.ntmps167
 go_wp2_with (refine load_blk rfl 88 _ rfl _ rfl (((Blk.new w _ _).alloc _).alloc _) Tryz.underlying88 rfl (by rw [hsl];kernel_rfl) ?_)
 go_loopw [5,6,8] (fun _ _ i wr=>∃ k:Nat,k ≤ 16 ∧ i = .int .i64 k ∧ Blk wr (w.heap.size + 1 + 1) 88 (upTo (chC tab s) (.int .u8 0) 16 k) ∧ Blk wr (w.heap.size + 1) 88 (zerosOf 16 .u8) ∧ Below w.heap.size w wr) (fun _ _ i _=>16 - (intOf i).toNat)
 case atStart =>
   refine ⟨0,by omega,rfl,?_,(Blk.new2 w _ _ _).alloc _,(((Below.refl _ _).alloc (Nat.le_refl _) _).alloc (by simp) _).alloc (by simp;omega) _⟩
   rw [upTo_zero]
   exact Blk.newAt _ _ _ _ (by simp)
 case round =>
   obtain ⟨k,hk,rfl,hb2,hb0,hbel⟩:=hrel
   by_cases hlt:k < 16
   · obtain ⟨p,hp8,Hp⟩:∃ x:Nat,x < 256 ∧ Hid (x = (s.getD k 0).toNat):=⟨_,UInt8.toNat_lt _,rfl⟩
     have hix:=run_index_agg (P:=Tryz.prog) Tryz.underlying88 Tryz.underlying5 rfl (by kernel_rfl) (s.map byte).toArray .i64 k hlt (.int .u8 (p:Int)) (by rw [map_agg s k (by omega),Hp.out])
     have hSr:=hS.below hbel hSl
     have hc:wr.cell? ⟨S,p,none⟩ = some (.int .u8 ((tab.getD p 0).toNat:Int)):=map_cell hSr p (by omega)
     have hf:=hb2.free k
     obtain ⟨u,hu⟩:∃ u,wr.cell? ⟨w.heap.size + 1 + 1,k,none⟩ = some u:=⟨_,hb2.cell k (by rw [upTo_length];exact hlt)⟩
     have hst:=hb2.set k (chC tab s k)
     rw [upTo_set] at hst
     obtain ⟨y,Hy,hy⟩:∃ y:Nat,Hid (Value.int .u8 (y:Int) = chC tab s k) ∧ (tab.getD p 0).toNat = y:=⟨_,by show Value.int .u8 _ = Value.int .u8 _;rw [Hp.out],rfl⟩
     rw [hy] at hc
     have hkI:(k:Int) < 16:=by omega
     have hpI:(p:Int) < 256:=by omega
     clear hy hSr hk
     go_wp2
     go_roundw
     case rel =>
       rw [Hy.out]
       exact ⟨k + 1,by omega,by go_num,hst,hb0.other _ _ (by simp),hbel.setCell (by simp;omega) _⟩
     case measure=>simp [intOf];omega
   · obtain rfl:k = 16:=by omega
     rw [upTo_all,show (List.range 16).map (chC tab s) = (s.map fun b=>tab.getD b.toNat 0).map byte from map_range16 s (fun b=>tab.getD b.toNat 0) hs] at hb2
     obtain ⟨R,hR⟩:∃ R,R = s.map fun b=>tab.getD b.toNat 0:=⟨_,rfl⟩
     have hRl:(R.map byte).length = 16:=by rw [hR,List.length_map,List.length_map,hs]
     rw [← hR] at hb2
     have HR:Hid (R = s.map fun b=>tab.getD b.toNat 0):=hR
     clear hR
     go_wp2_with (first | (refine load_blk rfl 88 _ rfl _ rfl hb2 Tryz.underlying88 rfl (by rw [hRl];kernel_rfl) ?_) | (refine store_blk rfl 88 _ _ rfl _ rfl rfl hb0 (by rw [hRl];kernel_rfl) (by rw [zerosOf_length,hRl]) (allOne_bytes _) ?_;intro w2 hb3 hg3 hs3))
     exact bodyPost_ret (v:=.agg (R.map byte).toArray) (results_blk Tryz.results167 _ _ rfl hb3 Tryz.underlying88 rfl (by rw [hRl];kernel_rfl)) rfl ⟨by rw [HR.out],hbel.grown hg3 hbel.size (by intro k hk;cases hk;omega)⟩
def tuC (b:Nat) (s:List UInt8) (i:Nat):Value:=byte (s.getD ((i + 4 * b * (i % 4)) % 16) 0)
set_option maxRecDepth 100000 in
set_option maxHeartbeats 1000000 in
theorem turnRows_any (b:Nat) (bi:Int) (s:List UInt8) (w:World) (hb13:b = 1 ∨ b = 3) (hbi:bi = (b:Int)) (hs:s.length = 16) :
   Calls Tryz.prog 80 #[.agg (s.map byte).toArray,.int .i64 bi] w fun e w'=>e = .returned (.agg ((turnL b s).map byte).toArray) ∧ Below w.heap.size w w':=by
 subst hbi
 have hz:=(zero_of_info Tryz.z16).1
 have hsl:(s.map byte).length = 16:=by rw [List.length_map,hs]
 go_enter Tryz.func80,Tryz.ntmps80
 go_wp2
 go_loopw [6,7] (fun _ i wr=>∃ k:Nat,k ≤ 16 ∧ i = .int .i64 k ∧ Blk wr (w.heap.size + 1 + 1) 88 (upTo (tuC b s) (.int .u8 0) 16 k) ∧ Blk wr (w.heap.size + 1) 88 (zerosOf 16 .u8) ∧ Blk wr w.heap.size 88 (s.map byte) ∧ Below w.heap.size w wr) (fun _ i _=>16 - (intOf i).toNat)
 case atStart =>
   refine ⟨0,by omega,rfl,?_,(Blk.new2 w _ _ _).alloc _,((Blk.new w _ _).alloc _).alloc _,(((Below.refl _ _).alloc (Nat.le_refl _) _).alloc (by simp) _).alloc (by simp;omega) _⟩
   rw [upTo_zero]
   exact Blk.newAt _ _ _ _ (by simp)
 case round =>
   obtain ⟨k,hk,rfl,hb2,hb0,hbs,hbel⟩:=hrel
   by_cases hlt:k < 16
   · obtain ⟨q,hq,hq12,Hq⟩:∃ q:Nat,IntKind.i64.wrap (4 * (b:Int)) = (q:Int) ∧ q ≤ 12 ∧ Hid (q = 4 * b):=⟨4 * b,by rw [IntKind.wrap_i64];omega,by omega,rfl⟩
     obtain ⟨r,hr,hr4,Hr⟩:∃ r:Nat,Int.tmod (k:Int) 4 = (r:Int) ∧ r < 4 ∧ Hid (r = k % 4):=⟨k % 4,by rw [Int.tmod_eq_emod_of_nonneg (by omega)];omega,by omega,rfl⟩
     obtain ⟨m,hm,hm36,Hm⟩:∃ m:Nat,IntKind.i64.wrap ((q:Int) * (r:Int)) = (m:Int) ∧ m ≤ 36 ∧ Hid (m = q * r):=by
       have h:=Nat.mul_le_mul hq12 (show r ≤ 3 by omega)
       have e:(q:Int) * (r:Int) = ((q * r:Nat):Int):=by simp
       exact ⟨q * r,by rw [e,IntKind.wrap_i64];omega,h,rfl⟩
     obtain ⟨a,ha,ha52,Ha⟩:∃ a:Nat,IntKind.i64.wrap ((k:Int) + (m:Int)) = (a:Int) ∧ a ≤ 52 ∧ Hid (a = k + m):=⟨k + m,by rw [IntKind.wrap_i64];omega,by omega,rfl⟩
     obtain ⟨j,hj,hj16,Hj⟩:∃ j:Nat,Int.tmod (a:Int) 16 = (j:Int) ∧ j < 16 ∧ Hid (j = a % 16):=⟨a % 16,by rw [Int.tmod_eq_emod_of_nonneg (by omega)];omega,by omega,rfl⟩
     have hc:wr.cell? ⟨w.heap.size,j,none⟩ = some (.int .u8 ((s.getD j 0).toNat:Int)):=map_cell hbs j (by omega)
     obtain ⟨y,Hy,hy⟩:∃ y:Nat,Hid (Value.int .u8 (y:Int) = tuC b s k) ∧ (s.getD j 0).toNat = y:=⟨_,by show Value.int .u8 _ = Value.int .u8 _;rw [Hj.out,Ha.out,Hm.out,Hq.out,Hr.out],rfl⟩
     rw [hy] at hc
     have hf:=hb2.free k
     obtain ⟨u,hu⟩:∃ u,wr.cell? ⟨w.heap.size + 1 + 1,k,none⟩ = some u:=⟨_,hb2.cell k (by rw [upTo_length];exact hlt)⟩
     have hst:=hb2.set k (tuC b s k)
     rw [upTo_set] at hst
     have hkI:(k:Int) < 16:=by omega
     have hjI:(j:Int) < 16:=by omega
     clear hy hk hb13
     go_wp2
     go_roundw
     case rel =>
       rw [Hy.out]
       exact ⟨k + 1,by omega,by go_num,hst,hb0.other _ _ (by simp),hbs.other _ _ (by simp;omega),hbel.setCell (by simp;omega) _⟩
     case measure=>simp [intOf];omega
   · obtain rfl:k = 16:=by omega
     have e:(List.range 16).map (tuC b s) = (turnL b s).map byte:=by
       unfold turnL tuC
       rw [List.map_map]
       rfl
     rw [upTo_all,e] at hb2
     have hRl:((turnL b s).map byte).length = 16:=by rw [List.length_map,turnL_length]
     obtain ⟨R,hR⟩:∃ R,R = turnL b s:=⟨_,rfl⟩
     rw [← hR] at hb2 hRl
     have HR:Hid (R = turnL b s):=hR
     clear hR e
     go_wp2_with (first | (refine load_blk rfl 88 _ rfl _ rfl hb2 Tryz.underlying88 rfl (by rw [hRl];kernel_rfl) ?_) | (refine store_blk rfl 88 _ _ rfl _ rfl rfl hb0 (by rw [hRl];kernel_rfl) (by rw [zerosOf_length,hRl]) (allOne_bytes _) ?_;intro w2 hb3 hg3 hs3))
     exact bodyPost_ret (v:=.agg (R.map byte).toArray) (results_blk Tryz.results80 _ _ rfl hb3 Tryz.underlying88 rfl (by rw [hRl];kernel_rfl)) rfl ⟨by rw [HR.out],hbel.grown hg3 hbel.size (by intro k hk;cases hk;omega)⟩
theorem rotl_neg (x r:Nat) (ki:Int) (w:World) (hx:x < 4294967296) (hki:ki = -8 * (r:Int)) (hr:r < 4) :
   Calls Tryz.prog 169 #[.int .u32 x,.int .i64 ki] w fun e w'=>e = .returned (.int .u32 (rotN x (32 - 8 * r):Nat)) ∧ w' = w:=by
 have h0:bits BinOp.and IntKind.u64 0 31 = 0:=by decide
 have h1:bits BinOp.and IntKind.u64 18446744073709551608 31 = 24:=by decide
 have h2:bits BinOp.and IntKind.u64 18446744073709551600 31 = 16:=by decide
 have h3:bits BinOp.and IntKind.u64 18446744073709551592 31 = 8:=by decide
 have k1:IntKind.u64.wrap (-8) = 18446744073709551608:=by decide
 have k2:IntKind.u64.wrap (-16) = 18446744073709551600:=by decide
 have k3:IntKind.u64.wrap (-24) = 18446744073709551592:=by decide
 obtain ⟨rfl,rfl⟩ | ⟨rfl,rfl⟩ | ⟨rfl,rfl⟩ | ⟨rfl,rfl⟩:(r = 0 ∧ ki = 0) ∨ (r = 1 ∧ ki = -8) ∨ (r = 2 ∧ ki = -16) ∨ (r = 3 ∧ ki = -24):=by omega
 · clear hki hr
   go_enter Tryz.func169,Tryz.ntmps169
   go_wp2
   go_ret
   refine ⟨ret_int ?_,rfl⟩
   have h:=rotN_nat x 0 hx
   rw [show ((x:Int) * 2 ^ 0 % 4294967296) = (x:Int) from by rw [Int.pow_zero,Int.mul_one];omega] at h
   simpa [rotN] using h
 · clear hki hr
   go_enter Tryz.func169,Tryz.ntmps169
   go_wp2
   go_ret
   refine ⟨ret_int ?_,rfl⟩
   have h:=rotN_nat x 24 hx
   simpa [rotN] using h
 · clear hki hr
   go_enter Tryz.func169,Tryz.ntmps169
   go_wp2
   go_ret
   refine ⟨ret_int ?_,rfl⟩
   have h:=rotN_nat x 16 hx
   simpa [rotN] using h
 · clear hki hr
   go_enter Tryz.func169,Tryz.ntmps169
   go_wp2
   go_ret
   refine ⟨ret_int ?_,rfl⟩
   have h:=rotN_nat x 8 hx
   simpa [rotN] using h
theorem rotN_lt' (x k:Nat) (hx:x < 4294967296):rotN x k < 4294967296:=by
 unfold rotN
 have hd:x / 2 ^ (32 - k % 32) ≤ x:=Nat.div_le_self _ _
 exact Nat.or_lt_two_pow (n:=32) (by omega) (by omega)
theorem colN_lt (T:Nat → Nat) (hT:∀ n,n < 256 → T n < 4294967296) (s:List UInt8) (c k:Nat):colN T s c k < 4294967296:=by
 induction k with
 | zero=>simp [colN]
 | succ k ih=>exact Nat.xor_lt_two_pow (n:=32) ih (rotN_lt' _ _ (hT _ (UInt8.toNat_lt _)))
def miC (T:Nat → Nat) (s:List UInt8) (j:Nat):Value:=byte (UInt8.ofNat (colN T s (j / 4) 4 / 2 ^ (24 - 8 * (j % 4))))
set_option maxRecDepth 100000 in
set_option maxHeartbeats 2000000 in
theorem mixer_any (T:Nat → Nat) (s:List UInt8) (S:Nat) (w:World) (hT:∀ n,n < 256 → T n < 4294967296) (hs:s.length = 16) (hS:Blk w S 247 (tabCells T)) :
   Calls Tryz.prog 168 #[.agg (s.map byte).toArray,.pointer (some ⟨S,0,none⟩)] w fun e w'=>e = .returned (.agg ((mixCols T s).map byte).toArray) ∧ Below w.heap.size w w':=by
 have hz:=(zero_of_info Tryz.z16).1
 have hsl:(s.map byte).length = 16:=by rw [List.length_map,hs]
 have hSl:=hS.lt
 have HT:Hid (∀ n,n < 256 → T n < 4294967296):=hT
 have HS:Hid (Blk w S 247 (tabCells T)):=hS
 clear hT hS
 go_enter Tryz.func168,Tryz.ntmps168
 go_wp2
 go_loopw [5,6,7,8,13,29] (fun i _ _ _ _ _ wr=>∃ c:Nat,c ≤ 4 ∧ i = .int .i64 ((4 * c:Nat):Int) ∧ Blk wr (w.heap.size + 1 + 1) 88 (upTo (miC T s) (.int .u8 0) 16 (4 * c)) ∧ Blk wr (w.heap.size + 1) 88 (zerosOf 16 .u8) ∧ Blk wr w.heap.size 88 (s.map byte) ∧ Below w.heap.size w wr) (fun i _ _ _ _ _ _=>16 - (intOf i).toNat)
 case atStart =>
   refine ⟨0,by omega,rfl,?_,(Blk.new2 w _ _ _).alloc _,((Blk.new w _ _).alloc _).alloc _,(((Below.refl _ _).alloc (Nat.le_refl _) _).alloc (by simp) _).alloc (by simp;omega) _⟩
   rw [Nat.mul_zero,upTo_zero]
   exact Blk.newAt _ _ _ _ (by simp)
 case round =>
   obtain ⟨c,hc,rfl,hb2,hb0,hbs,hbel⟩:=hrel
   obtain ⟨A,hA⟩:∃ A,A = 4 * c:=⟨_,rfl⟩
   have HA:Hid (A = 4 * c):=hA
   rw [← hA] at hb2 ⊢
   by_cases hlt:c < 4
   · have hAI:(A:Int) < 16:=by omega
     have hA12:A ≤ 12:=by omega
     clear hA hc
     obtain ⟨W,hW⟩:∃ W,W = wr:=⟨_,rfl⟩
     rw [← hW] at hb2 hb0 hbs hbel
     have HW0:Hid (wr = W):=hW.symm
     clear hW
     go_wp2
     go_loopw [6,7,13] (fun u _ i wr'=>∃ k:Nat,k ≤ 4 ∧ i = .int .i64 k ∧ u = .int .u32 (colN T s c k:Nat) ∧ Hid (wr' = W)) (fun _ _ i _=>4 - (intOf i).toNat)
     case atStart=>exact ⟨0,by omega,rfl,rfl,HW0⟩
     case round =>
       obtain ⟨k,hk,rfl,rfl,Hwr⟩:=hrel
       by_cases hkl:k < 4
       · obtain ⟨j,hj,hj16,hjI,Hj⟩:∃ j:Nat,IntKind.i64.wrap ((A:Int) + (k:Int)) = (j:Int) ∧ j < 16 ∧ (j:Int) < 16 ∧ Hid (j = 4 * c + k):=⟨A + k,by rw [IntKind.wrap_i64];omega,by omega,by omega,by show A + k = _;rw [HA.out]⟩
         obtain ⟨p,hp8,Hp⟩:∃ x:Nat,x < 256 ∧ Hid (x = (s.getD (4 * c + k) 0).toNat):=⟨_,UInt8.toNat_lt _,rfl⟩
         have hbs':Blk wr w.heap.size 88 (s.map byte):=by rw [Hwr.out];exact hbs
         have hS':Blk wr S 247 (tabCells T):=by rw [Hwr.out];exact HS.out.below hbel hSl
         have hc1:wr.cell? ⟨w.heap.size,j,none⟩ = some (.int .u8 (p:Int)):=by rw [map_cell hbs' j (by omega),Hp.out,Hj.out]
         obtain ⟨y,hy32,Hy⟩:∃ y:Nat,y < 4294967296 ∧ Hid (y = T p):=⟨T p,HT.out p hp8,rfl⟩
         have hc2:wr.cell? ⟨S,p,none⟩ = some (.int .u32 (y:Int)):=by rw [tab_cell hS' hp8,Hy.out]
         have hpI:(p:Int) < 256:=by omega
         have hkI:(k:Int) < 4:=by omega
         obtain ⟨m,hm,Hm⟩:∃ m:Int,IntKind.i64.wrap (-8 * (k:Int)) = m ∧ Hid (m = -8 * (k:Int)):=⟨-8 * (k:Int),by rw [IntKind.wrap_i64];omega,rfl⟩
         obtain ⟨z,hz1,Hz⟩:∃ z:Nat,bits BinOp.xor IntKind.u32 ((colN T s c k:Nat):Int) ((rotN y (32 - 8 * k):Nat):Int) = (z:Int) ∧ Hid (z = colN T s c (k + 1)):=by
           refine ⟨colN T s c k ^^^ rotN y (32 - 8 * k),u32_xor_nat _ _ (colN_lt T HT.out s c k) (rotN_lt' _ _ hy32),?_⟩
           show colN T s c k ^^^ rotN y (32 - 8 * k) = colN T s c k ^^^ rotN (T (s.getD (4 * c + k) 0).toNat) (32 - 8 * k)
           rw [Hy.out,Hp.out]
         clear hbs' hS' hb2 hb0 hbs
         go_wp2_with (go_at_call 169;refine (rotl_neg y k _ _ hy32 Hm.out hkl).mono ?_;rintro e w' ⟨rfl,rfl⟩)
         go_roundw
         case rel=>exact ⟨k + 1,by omega,by go_num,by rw [Hz.out],Hwr⟩
         case measure=>simp [intOf];omega
       · obtain rfl:k = 4:=by omega
         obtain ⟨V,hV,HV⟩:∃ V,V = colN T s c 4 ∧ Hid (V = colN T s c 4):=⟨_,rfl,rfl⟩
         have hV32:V < 4294967296:=by rw [hV];exact colN_lt T HT.out s c 4
         have gb2:Blk wr (w.heap.size + 1 + 1) 88 (upTo (miC T s) (.int .u8 0) 16 A):=by rw [Hwr.out];exact hb2
         have gb0:Blk wr (w.heap.size + 1) 88 (zerosOf 16 .u8):=by rw [Hwr.out];exact hb0
         have gbs:Blk wr w.heap.size 88 (s.map byte):=by rw [Hwr.out];exact hbs
         have gbel:Below w.heap.size w wr:=by rw [Hwr.out];exact hbel
         rw [← hV]
         clear hb2 hb0 hbs hbel hV
         go_wp2
         go_loopw [8,29] (fun _ i wr'=>∃ r:Nat,r ≤ 4 ∧ i = .int .i64 r ∧ Blk wr' (w.heap.size + 1 + 1) 88 (upTo (miC T s) (.int .u8 0) 16 (A + r)) ∧ Blk wr' (w.heap.size + 1) 88 (zerosOf 16 .u8) ∧ Blk wr' w.heap.size 88 (s.map byte) ∧ Below w.heap.size w wr') (fun _ i _=>4 - (intOf i).toNat)
         case atStart=>exact ⟨0,by omega,rfl,gb2,gb0,gbs,gbel⟩
         case round =>
           clear gb2 gb0 gbs gbel
           obtain ⟨r,hr,rfl,gb2,gb0,gbs,gbel⟩:=hrel
           by_cases hrl:r < 4
           · obtain ⟨j,hj,hj16,hjI,Hj⟩:∃ j:Nat,IntKind.i64.wrap ((A:Int) + (r:Int)) = (j:Int) ∧ j < 16 ∧ (j:Int) < 16 ∧ Hid (j = A + r):=⟨A + r,by rw [IntKind.wrap_i64];omega,by omega,by omega,rfl⟩
             obtain ⟨m1,hm1,Hm1⟩:∃ m:Nat,IntKind.i64.wrap (8 * (r:Int)) = (m:Int) ∧ Hid (m = 8 * r):=⟨8 * r,by rw [IntKind.wrap_i64];omega,rfl⟩
             obtain ⟨m2,hm2,hm24,Hm2⟩:∃ m:Nat,IntKind.i64.wrap (24 - (m1:Int)) = (m:Int) ∧ m ≤ 24 ∧ Hid (m = 24 - 8 * r):=⟨24 - 8 * r,by have:=Hm1.out;rw [IntKind.wrap_i64];omega,by omega,rfl⟩
             have hf:=gb2.free j
             obtain ⟨u,hu⟩:∃ u,wr.cell? ⟨w.heap.size + 1 + 1,j,none⟩ = some u:=⟨_,gb2.cell j (by rw [upTo_length];exact hj16)⟩
             have hst:=gb2.set (A + r) (miC T s (A + r))
             rw [upTo_set,← Hj.out] at hst
             have HW:Hid (Value.int .u8 ((V:Int) / 2 ^ m2 % 256) = miC T s j):=by
               show Value.int .u8 _ = Value.int .u8 _
               congr 1
               have e1:(A + r) / 4 = c:=by have:=HA.out;omega
               have e2:(A + r) % 4 = r:=by have:=HA.out;omega
               rw [Hj.out,e1,e2,← HV.out,← Hm2.out,UInt8.toNat_ofNat']
               simp
             have hrI:(r:Int) < 4:=by omega
             go_wp2
             go_roundw
             case rel =>
               rw [HW.out]
               exact ⟨r + 1,by omega,by go_num,by rw [show A + (r + 1) = j + 1 from by rw [Hj.out];omega];exact hst,gb0.other _ _ (by simp),gbs.other _ _ (by simp;omega),gbel.setCell (by simp;omega) _⟩
             case measure=>simp [intOf];omega
           · obtain rfl:r = 4:=by omega
             go_wp2
             go_roundw
             case rel=>exact ⟨c + 1,by omega,by have:=HA.out;go_num,by rw [show 4 * (c + 1) = A + 4 from by rw [HA.out];omega];exact gb2,gb0,gbs,gbel⟩
             case measure=>simp [intOf];omega
   · obtain rfl:c = 4:=by omega
     subst hA
     have e:(List.range 16).map (miC T s) = (mixCols T s).map byte:=by
       unfold mixCols miC
       rw [List.map_map]
       rfl
     rw [show 4 * 4 = 16 from rfl,upTo_all,e] at hb2
     have hRl:((mixCols T s).map byte).length = 16:=by rw [List.length_map,mixCols_length]
     obtain ⟨R,hR⟩:∃ R,R = mixCols T s:=⟨_,rfl⟩
     rw [← hR] at hb2 hRl
     have HR:Hid (R = mixCols T s):=hR
     clear hR e
     go_wp2_with (first | (refine load_blk rfl 88 _ rfl _ rfl hb2 Tryz.underlying88 rfl (by rw [hRl];kernel_rfl) ?_) | (refine store_blk rfl 88 _ _ rfl _ rfl rfl hb0 (by rw [hRl];kernel_rfl) (by rw [zerosOf_length,hRl]) (allOne_bytes _) ?_;intro w2 hb3 hg3 hs3))
     exact bodyPost_ret (v:=.agg (R.map byte).toArray) (results_blk Tryz.results168 _ _ rfl hb3 Tryz.underlying88 rfl (by rw [hRl];kernel_rfl)) rfl ⟨by rw [HR.out],hbel.grown hg3 hbel.size (by intro k hk;cases hk;omega)⟩
end Go.Proofs.YtbkokcjolanpeaaGreatDoor
