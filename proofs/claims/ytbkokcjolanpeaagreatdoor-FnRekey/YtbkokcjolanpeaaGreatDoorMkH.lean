import Derived.Test.YtbkokcjolanpeaaGreatDoorMkA
set_option maxRecDepth 100000
set_option maxHeartbeats 10000000
namespace Go.Proofs.YtbkokcjolanpeaaGreatDoor
open Go.RowKit Go.Proofs.Tryz Act
def DG:LU:=[1,3,5,15,17,51,85,255,26,46,114,150,161,248,19,53,95,225,56,72,216,115,149,164,247,2,6,10,30,34,102,170,
 229,52,92,228,55,89,235,38,106,190,217,112,144,171,230,49,83,245,4,12,20,60,68,204,79,209,104,184,211,110,178,205,
 76,212,103,169,224,59,77,215,98,166,241,8,24,40,120,136,131,158,185,208,107,189,220,127,129,152,179,206,73,219,118,154,
 181,196,87,249,16,48,80,240,11,29,39,105,187,214,97,163,254,25,43,125,135,146,173,236,47,113,147,174,233,32,96,160,
 251,22,58,78,210,109,183,194,93,231,50,86,250,21,63,65,195,94,226,61,71,201,64,192,91,237,44,116,156,191,218,117,
 159,186,213,100,172,239,42,126,130,157,188,223,122,142,137,128,155,182,193,88,232,35,101,175,234,37,111,177,200,67,197,84,
 252,31,33,99,165,244,7,9,27,45,119,153,176,203,70,202,69,207,74,222,121,139,134,145,168,227,62,66,198,81,243,14,
 18,54,90,238,41,123,141,140,143,138,133,148,167,242,13,23,57,75,221,124,132,151,162,253,28,36,108,180,199,82,246,1]
def AT:LU:=[99,124,119,123,242,107,111,197,48,1,103,43,254,215,171,118,202,130,201,125,250,89,71,240,173,212,162,175,156,164,114,192,
 183,253,147,38,54,63,247,204,52,165,229,241,113,216,49,21,4,199,35,195,24,150,5,154,7,18,128,226,235,39,178,117,
 9,131,44,26,27,110,90,160,82,59,214,179,41,227,47,132,83,209,0,237,32,252,177,91,106,203,190,57,74,76,88,207,
 208,239,170,251,67,77,51,133,69,249,2,127,80,60,159,168,81,163,64,143,146,157,56,245,188,182,218,33,16,255,243,210,
 205,12,19,236,95,151,68,23,196,167,126,61,100,93,25,115,96,129,79,220,34,42,144,136,70,238,184,20,222,94,11,219,
 224,50,58,10,73,6,36,92,194,211,172,98,145,149,228,121,231,200,55,109,141,213,78,169,108,86,244,234,101,122,174,8,
 186,120,37,46,28,166,180,198,232,221,116,31,75,189,139,138,112,62,181,102,72,3,246,14,97,53,87,185,134,193,29,158,
 225,248,152,17,105,217,142,148,155,30,135,233,206,85,40,223,140,161,137,13,191,230,66,104,65,153,45,15,176,84,187,22]
def invTab:LU:=[82,9,106,213,48,54,165,56,191,64,163,158,129,243,215,251,124,227,57,130,155,47,255,135,52,142,67,68,196,222,233,203,
 84,123,148,50,166,194,35,61,238,76,149,11,66,250,195,78,8,46,161,102,40,217,36,178,118,91,162,73,109,139,209,37,
 114,248,246,100,134,104,152,22,212,164,92,204,93,101,182,146,108,112,72,80,253,237,185,218,94,21,70,87,167,141,157,132,
 144,216,171,0,140,188,211,10,247,228,88,5,184,179,69,6,208,44,30,143,202,63,15,2,193,175,189,3,1,19,138,107,
 58,145,17,65,79,103,220,234,151,242,207,206,240,180,230,115,150,172,116,34,231,173,53,133,226,249,55,232,28,117,223,110,
 71,241,26,113,29,41,197,137,111,183,98,14,170,24,190,27,252,86,62,75,198,210,121,32,154,219,192,254,120,205,90,244,
 31,221,168,51,136,7,199,49,177,18,16,89,39,128,236,95,96,81,127,169,25,181,74,13,45,229,122,159,147,201,156,239,
 160,224,59,77,174,42,245,176,200,235,187,60,131,83,153,97,23,43,4,126,186,119,214,38,225,105,20,99,85,33,12,125]
theorem Gz:DG.length = 256:=by decide +kernel
theorem Bq:AT.length = 256:=by decide +kernel
theorem J5:invTab.length = 256:=by decide +kernel
def tXN (n:Nat):Nat:=(n * 2 % 256) ^^^ (n / 128 * 27)
def tXB (b:UInt8):UInt8:=UInt8.ofNat (tXN b.toNat)
theorem Dm:∀ n:Nat,n < 256 -> tXN n < 256:=by decide +kernel
theorem CD (b:UInt8):(tXB b).toNat = tXN b.toNat:=by
 have:=Dm b.toNat b.toNat_lt;simp [tXB];omega
def GZ:Nat -> Nat -> Nat -> Nat -> Nat
 | 0,p,_,_=>p
 | f + 1,p,a,b=>GZ f (if b % 2 = 1 then p ^^^ a else p) (tXN a) (b / 2)
def mulN (a b:Nat):Nat:=GZ 8 0 a b
theorem Yf (f p a b:Nat) (c:p < 256) (d:a < 256):GZ f p a b < 256:=by
 induction f generalizing p a b with
 | zero=>exact c
 | succ f ih =>
   refine ih _ _ _ ?_ (Dm a d)
   split
   ·exact Qx (n:=8) c d
   ·exact c
theorem UT (f p a:Nat):GZ f p a 0 = p:=by
 induction f generalizing a with
 | zero=>rfl
 | succ f ih=>show GZ f (if 0 % 2 = 1 then p ^^^ a else p) (tXN a) (0 / 2) = p;rw [if_neg (by decide)];exact ih _
def BD (a b:UInt8):UInt8:=UInt8.ofNat (mulN a.toNat b.toNat)
theorem JJ (a b:Nat) (c:a < 256):mulN a b < 256:=Yf 8 0 a b (by decide) c
theorem EL (a b:UInt8):(BD a b).toNat = mulN a.toNat b.toNat:=by
 have:=JJ a.toNat b.toNat a.toNat_lt;simp [BD];omega
def Av (b:UInt8):UInt8:=AT.getD b.toNat 0
def BP (b:UInt8):UInt8:=invTab.getD b.toNat 0
def Ce (a:Nat):Nat -> Nat × Nat
 | 0=>(a,1)
 | k + 1=>let x:=mulN (Ce a k).1 (Ce a k).1;(x,mulN (Ce a k).2 x)
def invN (a:Nat):Nat:=(Ce a 7).2
theorem Rq (a k:Nat) (b:a < 256):(Ce a k).1 < 256 /\ (Ce a k).2 < 256:=by
 induction k with
 | zero=>exact ⟨b,(by decide:1 < 256)⟩
 | succ k ih=>exact ⟨JJ _ _ ih.1,JJ _ _ ih.2⟩
def turn8 (x k:Nat):Nat:=x * 2 ^ k % 256 ||| x / 2 ^ (8 - k)
def affN (c:Nat):Nat:=c ^^^ turn8 c 1 ^^^ turn8 c 2 ^^^ turn8 c 3 ^^^ turn8 c 4 ^^^ 99
def colOf (a b c d:Nat):Nat:=a * 16777216 + b * 65536 + c * 256 + d
def Bn (n:Nat):Nat:=colOf (tXN (AT.getD n 0).toNat) (AT.getD n 0).toNat (AT.getD n 0).toNat (tXN (AT.getD n 0).toNat ^^^ (AT.getD n 0).toNat)
def Bc (n:Nat):Nat:=colOf (tXN (tXN (tXN n)) ^^^ tXN (tXN n) ^^^ tXN n) (tXN (tXN (tXN n)) ^^^ n) (tXN (tXN (tXN n)) ^^^ tXN (tXN n) ^^^ n) (tXN (tXN (tXN n)) ^^^ tXN n ^^^ n)
def colN (T:Nat -> Nat) (s:LU) (c:Nat):Nat -> Nat
 | 0=>0
 | k + 1=>colN T s c k ^^^ rotN (T (s.getD (4 * c + k) 0).toNat) (32 - 8 * k)
def Al (T:Nat -> Nat) (s:LU):LU:=(List.range 16).map fun j=>UInt8.ofNat (colN T s (j / 4) 4 / 2 ^ (24 - 8 * (j % 4)))
theorem Ct (T:Nat -> Nat) (s:LU):(Al T s).length = 16:=by simp [Al]
def A8 (row s:LU) (c i:Nat):Nat -> UInt8
 | 0=>0
 | k + 1=>A8 row s c i k ^^^ BD (s.getD (4 * c + k) 0) (row.getD ((k + 4 - i) % 4) 0)
def DX (row s:LU):LU:=(List.range 16).map fun j=>A8 row s (j / 4) (j % 4) 4
theorem Ix (row s:LU):(DX row s).length = 16:=by simp [DX]
theorem Oo (a b p:Nat):UInt8.ofNat ((a ^^^ b) / 2 ^ p) = UInt8.ofNat (a / 2 ^ p) ^^^ UInt8.ofNat (b / 2 ^ p):=by
 apply UInt8.toNat_inj.1;rw [Qs];simp only [Qb];rw [<- Nat.shiftRight_eq_div_pow,<- Nat.shiftRight_eq_div_pow,<- Nat.shiftRight_eq_div_pow,Nat.shiftRight_xor_distrib];exact Nat.xor_mod_two_pow
def FU:LU:=[2,3,1,1]
def rowD:LU:=[14,11,13,9]
theorem Vm:∀ n:Nat,n < 256 -> ∀ k:Nat,k < 4 -> ∀ i:Nat,i < 4 -> rotN (Bn n) (32 - 8 * k) / 2 ^ (24 - 8 * i) % 256 = mulN (AT.getD n 0).toNat (FU.getD ((k + 4 - i) % 4) 0).toNat:=by decide +kernel
theorem Sz:∀ n:Nat,n < 256 -> ∀ k:Nat,k < 4 -> ∀ i:Nat,i < 4 -> rotN (Bc n) (32 - 8 * k) / 2 ^ (24 - 8 * i) % 256 = mulN n (rowD.getD ((k + 4 - i) % 4) 0).toNat:=by decide +kernel
theorem WT (T:Nat -> Nat) (f:UInt8 -> UInt8) (row s:LU) (h:∀ x:UInt8,∀ k,k < 4 -> ∀ i,i < 4 -> rotN (T x.toNat) (32 - 8 * k) / 2 ^ (24 - 8 * i) % 256 = mulN (f x).toNat (row.getD ((k + 4 - i) % 4) 0).toNat)
 (c i k:Nat) (d:s.length = 16) (j:c < 4) (a:i < 4) (g:k <= 4):UInt8.ofNat (colN T s c k / 2 ^ (24 - 8 * i)) = A8 row (s.map f) c i k:=by
 induction k with
 | zero=>show UInt8.ofNat (0 / 2 ^ (24 - 8 * i)) = 0;rw [Nat.zero_div];rfl
 | succ k ih =>
   show UInt8.ofNat ((colN T s c k ^^^ rotN (T (s.getD (4 * c + k) 0).toNat) (32 - 8 * k)) / 2 ^ (24 - 8 * i)) = A8 row (s.map f) c i k ^^^ BD ((s.map f).getD (4 * c + k) 0) (row.getD ((k + 4 - i) % 4) 0);rw [Oo,ih (by omega)]
   congr 1
   have e:(s.map f).getD (4 * c + k) 0 = f (s.getD (4 * c + k) 0):=by
    have b:4 * c + k < s.length:=by omega
    simp [b]
   rw [e];apply UInt8.toNat_inj.1;rw [EL,<- h (s.getD (4 * c + k) 0) k (by omega) i a];simp
theorem Uv (s:LU) (c:s.length = 16):Al Bn s = DX FU (s.map Av):=by
 unfold Al DX;apply qr;intro j a;have a:=List.mem_range.1 a;exact WT Bn Av FU s (fun x k d i b=>Vm x.toNat x.toNat_lt k d i b) (j / 4) (j % 4) 4 c (by omega) (by omega) (by omega)
theorem Xi (s:LU) (c:s.length = 16):Al Bc s = DX rowD s:=by
 unfold Al DX;apply qr;intro j a;have a:=List.mem_range.1 a;have:=WT Bc id rowD s (fun x k d i b=>Sz x.toNat x.toNat_lt k d i b) (j / 4) (j % 4) 4 c (by omega) (by omega) (by omega)
 rwa [List.map_id] at this
def AX (a:Nat) (s:LU):LU:=(List.range 16).map fun i=>s.getD ((i + 4 * a * (i % 4)) % 16) 0
theorem A4 (b:Nat) (s:LU):(AX b s).length = 16:=by simp [AX]
theorem Of (f:UInt8 -> UInt8) (b:Nat) (s:LU) (c:s.length = 16):(AX b s).map f = AX b (s.map f):=by
 unfold AX;rw [JA];apply qr;intro i _;have a:(i + 4 * b * (i % 4)) % 16 < s.length:=by omega
 simp [a]
theorem Zk (b i:Nat) (a:b = 1 \/ b = 3) (_hi:i < 16):4 * ((i / 4 + b * (i % 4)) % 4) + i % 4 = (i + 4 * b * (i % 4)) % 16:=by
 rcases a with rfl | rfl <;> omega
def M8 (a:UInt8) (l:LU):LU:=[Av (l.getD 13 0) ^^^ a,Av (l.getD 14 0),Av (l.getD 15 0),Av (l.getD 12 0)]
def CL (a:UInt8) (l:LU):Nat -> LU
 | 0=>M8 a l
 | i + 1=>(CL a l i).set (i % 4) ((CL a l i).getD (i % 4) 0 ^^^ l.getD i 0)
theorem J4 (a:UInt8) (l:LU) (i:Nat):(CL a l i).length = 4:=by
 induction i with
 | zero=>rfl
 | succ i ih=>simp [CL,ih]
def Fk (a:UInt8) (l:LU):LU:=(List.range 16).map fun i=>(CL a l (i + 1)).getD (i % 4) 0
theorem Rx (a:UInt8) (l:LU):(Fk a l).length = 16:=by simp [Fk]
def Dq:Nat -> UInt8
 | 0=>1
 | r + 1=>tXB (Dq r)
def AQ (key:LU):Nat -> LU
 | 0=>key
 | r + 1=>Fk (Dq r) (AQ key r)
theorem BI (key:LU) (h:key.length = 16) (r:Nat):(AQ key r).length = 16:=by
 cases r with
 | zero=>exact h
 | succ r=>exact Rx _ _
def F8:Nat -> LU
 | 0=>(List.replicate 256 (0:UInt8)).set 0 99
 | k + 1=>(F8 k).set (DG.getD k 0).toNat (UInt8.ofNat (affN (DG.getD (255 - k) 0).toNat))
theorem Nj (k:Nat):(F8 k).length = 256:=by
 induction k with
 | zero=>show ((List.replicate 256 (0:UInt8)).set 0 99).length = 256;rw [QQ,List.length_replicate]
 | succ k ih=>show ((F8 k).set _ _).length = 256;rw [QQ,ih]
def H9:Nat -> LU
 | 0=>List.replicate 256 (0:UInt8)
 | k + 1=>(H9 k).set (AT.getD k 0).toNat (UInt8.ofNat k)
theorem Nh (k:Nat):(H9 k).length = 256:=by
 induction k with
 | zero=>show (List.replicate 256 (0:UInt8)).length = 256;rw [List.length_replicate]
 | succ k ih=>show ((H9 k).set _ _).length = 256;rw [QQ,ih]
theorem YM:∀ i:Nat,i < 255 -> (DG.getD (i + 1) 0).toNat = (DG.getD i 0).toNat ^^^ tXN (DG.getD i 0).toNat:=by decide +kernel
theorem SJ:F8 256 = AT:=by decide +kernel
theorem SN:H9 256 = invTab:=by decide +kernel
theorem Zd:∀ n:Nat,n < 256 -> affN (invN n) = (AT.getD n 0).toNat:=by decide +kernel
theorem db:∀ n:Nat,n < 256 -> mulN n 2 = tXN n:=by decide +kernel
theorem Ey (n:Nat) (w:World) (a:n < 256) :
 Calls prog 165 #[.int .u8 n] w fun e w'=>e = .returned (.int .u8 (tXN n:Nat)) /\ w' = w:=by
 go_enter func165,ntmps165;go_wp2;go_ret;refine ⟨CH ?_,rfl⟩
 revert n
 decide +kernel
theorem Ye (x k:Nat) (a:Int) (w:World) (l:x < 256) (b:a = (k:Int)) (d:1 <= k) (c:k <= 4) :
 Calls prog 203 #[.int .u8 x,.int .i64 a] w fun e w'=>e = .returned (.int .u8 (turn8 x k:Nat)) /\ w' = w:=by
 obtain ⟨rfl,rfl⟩ | ⟨rfl,rfl⟩ | ⟨rfl,rfl⟩ | ⟨rfl,rfl⟩:(k = 1 /\ a = 1) \/ (k = 2 /\ a = 2) \/ (k = 3 /\ a = 3) \/ (k = 4 /\ a = 4):=by omega
 all_goals
  clear d c b;have j:bits BinOp.and IntKind.u64 1 7 = 1:=by decide
  have g:bits BinOp.and IntKind.u64 2 7 = 2:=by decide
  have f:bits BinOp.and IntKind.u64 3 7 = 3:=by decide
  have i:bits BinOp.and IntKind.u64 4 7 = 4:=by decide
  go_enter func203,ntmps203;go_wp2;go_ret;refine ⟨CH ?_,rfl⟩
  revert x
  decide +kernel
def affI (n:Nat):Nat -> Nat
 | 0=>n ^^^ 99
 | k + 1=>affI n k ^^^ turn8 n (k + 1)
theorem Pj (n k:Nat) (a:n < 256):turn8 n k < 256:=by
 unfold turn8;have b:n / 2 ^ (8 - k) <= n:=qX _ _;exact qO (n:=8) (by omega) (by omega)
theorem Tm (n k:Nat) (a:n < 256):affI n k < 256:=by
 induction k with
 | zero=>exact Qx (n:=8) a (by decide)
 | succ k ih=>exact Qx (n:=8) ih (Pj n _ a)
theorem Pp:∀ n:Nat,n < 256 -> affI n 4 = affN n:=by decide +kernel
theorem Oe (n:Nat) (w:World) (a:n < 256) :
 Calls prog 166 #[.int .u8 n] w fun e w'=>e = .returned (.int .u8 (affN n:Nat)) /\ w' = w:=by
 have d:bits BinOp.xor IntKind.u8 (n:Int) 99 = ((affI n 0:Nat):Int):=qK n 99 a (by decide);go_enter func166,ntmps166;go_wp2
 go_loopw [3,4] (fun s i wr=>∃ k:Nat,k <= 4 /\ i = .int .i64 ((k:Int) + 1) /\ s = .int .u8 (affI n k:Nat) /\ wr = w) (fun _ i _=>5 - (intOf i).toNat)
 case atStart=>exact ⟨0,by omega,rfl,rfl,rfl⟩
 case round =>
  clear d;obtain ⟨k,j,rfl,rfl,b⟩:=hrel;have c:Hid (wr = w):=b;clear b
  by_cases hlt:k < 4
  ·have g:(k:Int) + 1 <= 4:=by omega
   have l:bits BinOp.xor IntKind.u8 ((affI n k:Nat):Int) ((turn8 n (k + 1):Nat):Int) = ((affI n (k + 1):Nat):Int):=qK _ _ (Tm n k a) (Pj n _ a);go_wp2_with (go_at_call 203;refine (Ye n (k + 1) _ _ a (by omega) (by omega) (by omega)).mono ?_;rintro e w' ⟨rfl,rfl⟩)
   go_roundw
   case rel=>exact ⟨k + 1,by omega,by go_num,rfl,c.out⟩
   case measure=>simp [intOf];omega
  ·obtain rfl:k = 4:=by omega
   have f:Hid (affI n 4 = affN n):=Pp n a;go_wp2;go_ret;exact ⟨CH (by rw [f.out]),c.out⟩
theorem Tryz.zero240:(prog.info? 240).map (fun i=>(i.zero,i.size)) = some (some (.agg (AC 256 .u8).toArray),256):=by kernel_rfl
def PG (i:Nat):Value:=byte (DG.getD i 0)
theorem YP:(List.range 256).map PG = DG.map byte:=by
 apply qA;intro i;have a:=Gz
 by_cases hi:i < 256
 ·rw [List.getElem?_map,List.getElem?_map,List.getElem?_range hi,List.getElem?_eq_getElem (by omega)];simp [PG,show i < DG.length from by omega]
 ·rw [List.getElem?_eq_none (by simp;omega),List.getElem?_eq_none (by simp;omega)]
theorem OI {w:World} {g t:Nat} {f:Nat -> Value} {z:Value} {n k:Nat} (h:Blk w g t (BQ f z n k)) (j:Nat) (a:j < k) (b:k <= n):w.cell? ⟨g,j,none⟩ = some (f j):=by
 rw [h.cell j (by rw [Bs];omega)];simp [BQ,a]
theorem BV {w:World} {g t:Nat} {l:LU} (h:Blk w g t (l.map byte)) (j:Nat) (a:j < l.length):w.cell? ⟨g,j,none⟩ = some (.int .u8 ((l.getD j 0).toNat:Int)):=by
 rw [h.cell j (by simpa using a)];simp [byte,a]
theorem I1 (l:LU) (j:Nat) (a:j < l.length):(l.map byte).toArray[j]? = some (.int .u8 ((l.getD j 0).toNat:Int)):=by
 simp [byte,a]
theorem Ri (w:World) :
 Calls prog 132 #[] w fun e w'=>e = .returned (.agg (AT.map byte).toArray) /\ Bl w w':=by
 have hz:=(QO Tryz.zero240).1;have a1:(AC 256 .u8)[0]? = some (.int .u8 0):=rfl;go_enter func132,ntmps132;go_wp2
 go_loopw [2] (fun i wr=>∃ k:Nat,1 <= k /\ k <= 256 /\ i = .int .i64 k /\ Blk wr (w.heap.size + 1) 240 (BQ PG (.int .u8 0) 256 k) /\ Blk wr w.heap.size 240 (AC 256 .u8) /\ Bl w wr) (fun i _=>256 - (intOf i).toNat)
 case atStart =>
  refine ⟨1,by omega,by omega,rfl,?_,(Blk.new w _ _).alloc _,((Below.refl _ _).alloc (QE _) _).alloc (by simp) _⟩;rw [<- Cv,Cz];exact Blk.new2 w _ _ _
 case round =>
  obtain ⟨k,I,m,rfl,a,f,b⟩:=hrel
  by_cases hlt:k < 256
  ·have A:(k:Int) < 256:=by omega
   obtain ⟨j,T,N,M,l⟩:∃ j:Nat,IntKind.i64.wrap ((k:Int) - 1) = (j:Int) /\ j < 256 /\ (j:Int) < 256 /\ Hid (k = j + 1):=⟨k - 1,by rw [QH];omega,by omega,by omega,(by omega:k = k - 1 + 1)⟩;obtain ⟨x,o,J⟩:∃ x:Nat,x < 256 /\ Hid (x = (DG.getD j 0).toNat):=⟨_,QW _,rfl⟩;have W:wr.cell? ⟨w.heap.size + 1,j,none⟩ = some (.int .u8 (x:Int)):=by rw [OI a j (by have:=l.out;omega) m,J.out];rfl
   have U:=a.free k;obtain ⟨u,X⟩:∃ u,wr.cell? ⟨w.heap.size + 1,k,none⟩ = some u:=⟨_,a.cell k (by rw [Bs];omega)⟩;have d:=a.set k (PG k);rw [Cv] at d;obtain ⟨y,hy,Y⟩:∃ y:Nat,bits BinOp.xor IntKind.u8 (x:Int) ((tXN x:Nat):Int) = (y:Int) /\ Hid (Value.int .u8 (y:Int) = PG k):=by
    refine ⟨_,qK x _ o (Dm x o),?_⟩;show Value.int .u8 _ = byte _;unfold byte;rw [l.out,YM j (by have:=l.out;omega),<- J.out]
   clear m I;go_wp2;go_region_with (go_at_call 165;refine (Ey x _ o).mono ?_;rintro e w' ⟨rfl,rfl⟩)
   all_goals
    go_wp2
    all_goals
     go_roundw
     case rel =>
      rw [Y.out];exact ⟨k + 1,by omega,by omega,by go_num,d.drew1,(f.other _ _ (by simp)).drew1,(b.setCell (by simp) _).drew⟩
     case measure=>simp [intOf];omega
  ·obtain rfl:k = 256:=by omega
   rw [DD,YP] at a;have D:affN 0 = 99:=by decide +kernel
   obtain ⟨G,F⟩:=uX (wr.heap.size);have a3:w.heap.size + 2 <= G:=by have:=a.lt;omega
   have H:(DG.map byte).length = 256:=by rw [QD,Gz]
   go_wp2_with (first | (go_at_call 166;refine (Oe 0 _ (by decide)).mono ?_;rintro e w' ⟨rfl,rfl⟩;rw [D]) | (refine AL rfl 240 _ rfl _ rfl (a.alloc _) underlying240 rfl (by rw [H];kernel_rfl) ?_))
   have L:Blk (wr.alloc (.cells ((AC 256 .u8).set 0 (.int .u8 99)).toArray 240)) wr.heap.size 240 ((F8 0).map byte):=by
    have h:=Blk.new wr 240 ((AC 256 .u8).set 0 (byte 99)).toArray;show Blk _ _ _ (((List.replicate 256 (0:UInt8)).set 0 99).map byte);rw [qP,List.map_replicate];exact h
   have z:=a.alloc (.cells ((AC 256 .u8).set 0 (.int .u8 99)).toArray 240);have E:=f.alloc (.cells ((AC 256 .u8).set 0 (.int .u8 99)).toArray 240);have O:=b.alloc b.size (.cells ((AC 256 .u8).set 0 (.int .u8 99)).toArray 240);rw [<- F] at L ⊢;clear a f b F
   go_loopw [4,5,26] (fun _ _ i wr=>∃ k:Nat,k <= 256 /\ i = .int .i64 k /\ Blk wr G 240 ((F8 k).map byte) /\ Blk wr (w.heap.size + 1) 240 (DG.map byte) /\ Blk wr w.heap.size 240 (AC 256 .u8) /\ Bl w wr) (fun _ _ i _=>256 - (intOf i).toNat)
   case atStart=>exact ⟨0,by omega,rfl,L,z,E,O⟩
   case round =>
    clear L z E O;obtain ⟨k,m,rfl,g,a,f,b⟩:=hrel
    by_cases hlt:k < 256
    ·have r:=Gz;obtain ⟨p,t,B⟩:∃ x:Nat,x < 256 /\ Hid (x = (DG.getD k 0).toNat):=⟨_,QW _,rfl⟩;obtain ⟨q,n,R⟩:∃ x:Nat,x < 256 /\ Hid (x = (DG.getD (255 - k) 0).toNat):=⟨_,QW _,rfl⟩;obtain ⟨j,T,N,l⟩:∃ j:Nat,IntKind.i64.wrap (255 - (k:Int)) = (j:Int) /\ j < 256 /\ Hid (j = 255 - k):=⟨255 - k,by rw [QH];omega,by omega,rfl⟩;have a0:=CB (P:=prog) underlying240 underlying5 rfl (by kernel_rfl) (DG.map byte).toArray .i64 k hlt (.int .u8 (p:Int)) (by rw [I1 DG k (by omega),B.out]);have W:wr.cell? ⟨w.heap.size + 1,j,none⟩ = some (.int .u8 (q:Int)):=by rw [BV a j (by omega),R.out,l.out]
     have U:=g.free p;have c:=Nj k;obtain ⟨u,X⟩:∃ u,wr.cell? ⟨G,p,none⟩ = some u:=⟨_,g.cell p (by rw [QD,c];exact t)⟩;have d:=g.set p (byte (UInt8.ofNat (affN q)));rw [<- qP] at d;have hst':Blk (wr.setCell ⟨G,p,none⟩ (byte (UInt8.ofNat (affN q)))) G 240 ((F8 (k + 1)).map byte):=by
      rw [B.out,R.out] at d ⊢;exact d
     have V:Hid (Value.int .u8 ((affN q:Nat):Int) = byte (UInt8.ofNat (affN q))):=by
      show Value.int .u8 _ = Value.int .u8 _;have Z:=Tm q 4 n;rw [Pp q n] at Z
      congr 1
      rw [Qb];omega
     have A:(k:Int) < 256:=by omega
     have a4:(p:Int) < 256:=by omega
     have M:(j:Int) < 256:=by omega
     clear d c r;go_wp2_with (go_at_call 166;refine (Oe q _ n).mono ?_;rintro e w' ⟨rfl,rfl⟩)
     go_roundw
     case rel =>
      rw [V.out];exact ⟨k + 1,by omega,by go_num,hst',a.other _ _ (by simp;omega),f.other _ _ (by simp;omega),b.setCell (by simp;omega) _⟩
     case measure=>simp [intOf];omega
    ·obtain rfl:k = 256:=by omega
     rw [SJ] at g;have c:(AT.map byte).length = 256:=by rw [QD,Bq]
     go_wp2_with (first | (refine AL rfl 240 _ rfl _ rfl g underlying240 rfl (by rw [c];kernel_rfl) ?_) | (refine store_blk rfl 240 _ _ rfl _ rfl rfl f (by rw [c];kernel_rfl) (by rw [AD,c]) (AF _) ?_;intro w2 s C a2))
     exact Qc (v:=.agg (AT.map byte).toArray) (AG results132 _ _ rfl s underlying240 rfl (by rw [c];kernel_rfl)) rfl ⟨rfl,b.grown C b.size (by intro k m;cases m;exact QE _)⟩
theorem O4 (w:World) :
 Calls prog 135 #[.agg (AT.map byte).toArray] w fun e w'=>e = .returned (.agg (invTab.map byte).toArray) /\ Bl w w':=by
 have hz:=(QO Tryz.zero240).1;have q:(AT.map byte).length = 256:=by rw [QD,Bq]
 go_enter func135,ntmps135;go_wp2_with (refine AL rfl 240 _ rfl _ rfl (((Blk.new w _ _).alloc _).alloc _) underlying240 rfl (by rw [q];kernel_rfl) ?_)
 go_loopw [4,5,7] (fun _ _ i wr=>∃ k:Nat,k <= 256 /\ i = .int .i64 k /\ Blk wr (w.heap.size + 1 + 1) 240 ((H9 k).map byte) /\ Blk wr (w.heap.size + 1) 240 (AC 256 .u8) /\ Bl w wr) (fun _ _ i _=>256 - (intOf i).toNat)
 case atStart =>
  refine ⟨0,by omega,rfl,?_,(Blk.new2 w _ _ _).alloc _,(((Below.refl _ _).alloc (QE _) _).alloc (by simp) _).alloc (by simp;omega) _⟩;show Blk _ _ _ ((List.replicate 256 (0:UInt8)).map byte);rw [List.map_replicate];exact Blk.newAt _ _ _ _ (by simp)
 case round =>
  obtain ⟨k,o,rfl,b,f,c⟩:=hrel
  by_cases hlt:k < 256
  ·have g:=Bq;obtain ⟨p,l,m⟩:∃ x:Nat,x < 256 /\ Hid (x = (AT.getD k 0).toNat):=⟨_,QW _,rfl⟩;have s:=CB (P:=prog) underlying240 underlying5 rfl (by kernel_rfl) (AT.map byte).toArray .i64 k hlt (.int .u8 (p:Int)) (by rw [I1 AT k (by omega),m.out]);have B:=b.free p;have a:=Nh k;obtain ⟨u,C⟩:∃ u,wr.cell? ⟨w.heap.size + 1 + 1,p,none⟩ = some u:=⟨_,b.cell p (by rw [QD,a];exact l)⟩;have d:=b.set p (byte (UInt8.ofNat k));rw [<- qP] at d;have hst':Blk (wr.setCell ⟨w.heap.size + 1 + 1,p,none⟩ (byte (UInt8.ofNat k))) (w.heap.size + 1 + 1) 240 ((H9 (k + 1)).map byte):=by
    rw [m.out] at d ⊢;exact d
   have r:Hid (byte (UInt8.ofNat k) = Value.int .u8 (k:Int)):=by
    show Value.int .u8 _ = Value.int .u8 _
    congr 1
    rw [Qb];omega
   have z:IntKind.u8.wrap (k:Int) = (k:Int):=by rw [JE];omega
   have t:(k:Int) < 256:=by omega
   have A:(p:Int) < 256:=by omega
   rw [r.out] at hst';clear d a g;go_wp2;go_roundw
   case rel =>
    exact ⟨k + 1,by omega,by go_num,hst',f.other _ _ (by simp),c.setCell (by simp;omega) _⟩
   case measure=>simp [intOf];omega
  ·obtain rfl:k = 256:=by omega
   rw [SN] at b;have a:(invTab.map byte).length = 256:=by rw [QD,J5]
   go_wp2_with (first | (refine AL rfl 240 _ rfl _ rfl b underlying240 rfl (by rw [a];kernel_rfl) ?_) | (refine store_blk rfl 240 _ _ rfl _ rfl rfl f (by rw [a];kernel_rfl) (by rw [AD,a]) (AF _) ?_;intro w2 j n y))
   exact Qc (v:=.agg (invTab.map byte).toArray) (AG results135 _ _ rfl j underlying240 rfl (by rw [a];kernel_rfl)) rfl ⟨rfl,c.grown n c.size (by intro k o;cases o;omega)⟩
theorem RJ (a b c d:Nat) (i:a < 256) (j:b < 256) (f:c < 256) (g:d < 256):colOf a b c d < 4294967296:=by
 unfold colOf;omega
theorem Kg (a b c d:Nat) (w:World) (q:a < 256) (s:b < 256) (p:c < 256) (u:d < 256) :
 Calls prog 170 #[.int .u8 a,.int .u8 b,.int .u8 c,.int .u8 d] w fun e w'=>e = .returned (.int .u32 (colOf a b c d:Nat)) /\ w' = w:=by
 obtain ⟨f,v,o,i⟩:∃ x:Nat,bits BinOp.or IntKind.u32 ((a:Int) * 16777216) ((b:Int) * 65536) = (x:Int) /\ x < 4294967296 /\ Hid (x = a * 16777216 + b * 65536):=by
  refine ⟨a * 16777216 + b * 65536,?_,by omega,rfl⟩;have m:(a:Int) * 16777216 = ((a * 16777216:Nat):Int):=by omega
  have g:(b:Int) * 65536 = ((b * 65536:Nat):Int):=by omega
  rw [m,g,u32_or_nat _ _ (by omega) (by omega),nat_join 24 (a * 16777216) (b * 65536) (by omega) (by omega)]
 obtain ⟨j,r,n,l⟩:∃ x:Nat,bits BinOp.or IntKind.u32 (f:Int) ((c:Int) * 256) = (x:Int) /\ x < 4294967296 /\ Hid (x = f + c * 256):=by
  have:=i.out;refine ⟨f + c * 256,?_,by omega,rfl⟩;have g:(c:Int) * 256 = ((c * 256:Nat):Int):=by omega
  rw [g,u32_or_nat _ _ (by omega) (by omega),nat_join 16 f (c * 256) (by omega) (by omega)]
 obtain ⟨y,t,k⟩:∃ x:Nat,bits BinOp.or IntKind.u32 (j:Int) (d:Int) = (x:Int) /\ Hid (x = colOf a b c d):=by
  have:=i.out;have:=l.out;refine ⟨colOf a b c d,?_,rfl⟩;rw [u32_or_nat _ _ (by omega) (by omega),nat_join 8 j d (by omega) (by omega)];unfold colOf;omega
 go_enter func170,ntmps170;go_wp2;go_ret;exact ⟨CH (by rw [k.out]),rfl⟩
def A6 (T:Nat -> Nat):List Value:=(List.range 256).map fun i=>CS (T i)
theorem F1 (T:Nat -> Nat):(A6 T).length = 256:=by simp [A6]
theorem Mg (T:Nat -> Nat):(A6 T).toArray.all (·.oneCell') = true:=Fm _ (fun _=>rfl) _
theorem Yt {w:World} {S t n:Nat} {T:Nat -> Nat} (h:Blk w S t (A6 T)) (a:n < 256):w.cell? ⟨S,n,none⟩ = some (.int .u32 (T n:Nat)):=by
 rw [h.cell n (by rw [F1];exact a)];simp [A6,CS]
theorem Tryz.zero247:(prog.info? 247).map (fun i=>(i.zero,i.size)) = some (some (.agg (AC 256 .u32).toArray),256):=by kernel_rfl
theorem Zo:∀ n:Nat,n < 256 -> Bn n < 4294967296:=by
 intro n _;have h:=(AT.getD n 0).toNat_lt;exact RJ _ _ _ _ (Dm _ h) h h (Qx (n:=8) (Dm _ h) h)
theorem Wr:∀ n:Nat,n < 256 -> Bc n < 4294967296:=by
 intro n h;have d:=Dm n h;have f:=Dm _ d;have c:=Dm _ f;have x:∀ a b:Nat,a < 256 -> b < 256 -> a ^^^ b < 256:=fun a b g i=>Qx (n:=8) g i;exact RJ _ _ _ _ (x _ _ (x _ _ c f) d) (x _ _ c h) (x _ _ (x _ _ c f) h) (x _ _ (x _ _ c d) h)
theorem Rl (w:World) :
 Calls prog 137 #[.agg (AT.map byte).toArray] w fun e w'=>e = .returned (.agg (A6 Bn).toArray) /\ Bl w w':=by
 have hz:=(QO Tryz.zero247).1;have z:(AT.map byte).length = 256:=by rw [QD,Bq]
 go_enter func137,ntmps137;go_wp2_with (refine AL rfl 240 _ rfl _ rfl (((Blk.new w _ _).alloc _).alloc _) underlying240 rfl (by rw [z];kernel_rfl) ?_)
 go_loopw [4,5,6,8] (fun _ _ _ i wr=>∃ k:Nat,k <= 256 /\ i = .int .i64 k /\ Blk wr (w.heap.size + 1 + 1) 247 (BQ (fun i=>CS (Bn i)) (.int .u32 0) 256 k) /\ Blk wr (w.heap.size + 1) 247 (AC 256 .u32) /\ Bl w wr) (fun _ _ _ i _=>256 - (intOf i).toNat)
 case atStart =>
  refine ⟨0,by omega,rfl,?_,(Blk.new2 w _ _ _).alloc _,(((Below.refl _ _).alloc (QE _) _).alloc (by simp) _).alloc (by simp;omega) _⟩;rw [Cz];exact Blk.newAt _ _ _ _ (by simp)
 case round =>
  obtain ⟨k,s,rfl,b,g,c⟩:=hrel
  by_cases hlt:k < 256
  ·have l:=Bq;obtain ⟨p,a,o⟩:∃ x:Nat,x < 256 /\ Hid (x = (AT.getD k 0).toNat):=⟨_,QW _,rfl⟩;have D:=CB (P:=prog) underlying240 underlying5 rfl (by kernel_rfl) (AT.map byte).toArray .i64 k hlt (.int .u8 (p:Int)) (by rw [I1 AT k (by omega),o.out]);have H:=b.free k;obtain ⟨u,I⟩:∃ u,wr.cell? ⟨w.heap.size + 1 + 1,k,none⟩ = some u:=⟨_,b.cell k (by rw [Bs];exact hlt)⟩;have j:=b.set k (CS (Bn k));rw [Cv (fun i=>CS (Bn i))] at j;obtain ⟨t,f,q⟩:∃ t:Nat,t < 256 /\ Hid (t = tXN p):=⟨_,Dm p a,rfl⟩;obtain ⟨y,G,A,C⟩:∃ y:Nat,bits BinOp.xor IntKind.u8 (t:Int) (p:Int) = (y:Int) /\ y < 256 /\ Hid (y = t ^^^ p):=⟨_,qK t p f a,Qx (n:=8) f a,rfl⟩;have B:Hid (Value.int .u32 ((colOf t p p y:Nat):Int) = CS (Bn k)):=by
    show Value.int .u32 _ = Value.int .u32 _;rw [C.out,q.out,o.out]
    rfl
   have E:(k:Int) < 256:=by omega
   clear l;go_wp2_with (first
    | (go_at_call 165;refine (Ey p _ a).mono ?_;rintro e w' ⟨rfl,rfl⟩;rw [<- q.out])
    | (go_at_call 170;refine (Kg t p p y _ f a a A).mono ?_;rintro e w' ⟨rfl,rfl⟩))
   go_roundw
   case rel =>
    rw [B.out];exact ⟨k + 1,by omega,by go_num,j,g.other _ _ (by simp),c.setCell (by simp;omega) _⟩
   case measure=>simp [intOf];omega
  ·obtain rfl:k = 256:=by omega
   have hb2':Blk wr (w.heap.size + 1 + 1) 247 (A6 Bn):=by rw [DD] at b;exact b
   have d:=F1 Bn;go_wp2_with (first | (refine AL rfl 247 _ rfl _ rfl hb2' underlying247 rfl (by rw [d];kernel_rfl) ?_) | (refine store_blk rfl 247 _ _ rfl _ rfl rfl g (by rw [d];kernel_rfl) (by rw [AD,d]) (Mg _) ?_;intro w2 m r F))
   exact Qc (v:=.agg (A6 Bn).toArray) (AG results137 _ _ rfl m underlying247 rfl (by rw [d];kernel_rfl)) rfl ⟨rfl,c.grown r c.size (by intro k s;cases s;omega)⟩
theorem Nf (w:World) :
 Calls prog 138 #[] w fun e w'=>e = .returned (.agg (A6 Bc).toArray) /\ Bl w w':=by
 have hz:=(QO Tryz.zero247).1;go_enter func138,ntmps138;go_wp2
 go_loopw [2,3,4,5,6,7] (fun _ _ _ _ _ i wr=>∃ k:Nat,k <= 256 /\ i = .int .i64 k /\ Blk wr (w.heap.size + 1) 247 (BQ (fun i=>CS (Bc i)) (.int .u32 0) 256 k) /\ Blk wr w.heap.size 247 (AC 256 .u32) /\ Bl w wr) (fun _ _ _ _ _ i _=>256 - (intOf i).toNat)
 case atStart =>
  refine ⟨0,by omega,rfl,?_,(Blk.new w _ _).alloc _,((Below.refl _ _).alloc (QE _) _).alloc (by simp) _⟩;rw [Cz];exact Blk.new2 w _ _ _
 case round =>
  obtain ⟨k,H,rfl,j,s,l⟩:=hrel
  by_cases hlt:k < 256
  ·have a7:IntKind.u8.wrap (k:Int) = (k:Int):=by rw [JE];omega
   have hf:=j.free k;obtain ⟨u,hu⟩:∃ u,wr.cell? ⟨w.heap.size + 1,k,none⟩ = some u:=⟨_,j.cell k (by rw [Bs];exact hlt)⟩;have x:=j.set k (CS (Bc k));rw [Cv (fun i=>CS (Bc i))] at x;obtain ⟨t,c,C⟩:∃ t:Nat,t < 256 /\ Hid (t = tXN k):=⟨_,Dm k hlt,rfl⟩;obtain ⟨f,m,B⟩:∃ f:Nat,f < 256 /\ Hid (f = tXN t):=⟨_,Dm t c,rfl⟩;obtain ⟨g,d,M⟩:∃ g:Nat,g < 256 /\ Hid (g = tXN f):=⟨_,Dm f m,rfl⟩;have X:∀ a b:Nat,a < 256 -> b < 256 -> a ^^^ b < 256:=fun a b Y R=>Qx (n:=8) Y R;obtain ⟨q,h1,p,W⟩:∃ y:Nat,bits BinOp.xor IntKind.u8 (g:Int) (f:Int) = (y:Int) /\ y < 256 /\ Hid (y = g ^^^ f):=⟨_,qK g f d m,X _ _ d m,rfl⟩;obtain ⟨D,h2,I,Z⟩:∃ y:Nat,bits BinOp.xor IntKind.u8 (q:Int) (t:Int) = (y:Int) /\ y < 256 /\ Hid (y = q ^^^ t):=⟨_,qK _ _ p c,X _ _ p c,rfl⟩;obtain ⟨L,h3,J,H3⟩:∃ y:Nat,bits BinOp.xor IntKind.u8 (g:Int) (k:Int) = (y:Int) /\ y < 256 /\ Hid (y = g ^^^ k):=⟨_,qK _ _ d hlt,X _ _ d hlt,rfl⟩;obtain ⟨G,h4,E,T⟩:∃ y:Nat,bits BinOp.xor IntKind.u8 (q:Int) (k:Int) = (y:Int) /\ y < 256 /\ Hid (y = q ^^^ k):=⟨_,qK _ _ p hlt,X _ _ p hlt,rfl⟩;obtain ⟨O,h5,r,U⟩:∃ y:Nat,bits BinOp.xor IntKind.u8 (g:Int) (t:Int) = (y:Int) /\ y < 256 /\ Hid (y = g ^^^ t):=⟨_,qK _ _ d c,X _ _ d c,rfl⟩;obtain ⟨N,h6,A,H6⟩:∃ y:Nat,bits BinOp.xor IntKind.u8 (O:Int) (k:Int) = (y:Int) /\ y < 256 /\ Hid (y = O ^^^ k):=⟨_,qK _ _ r hlt,X _ _ r hlt,rfl⟩;have V:Hid (Value.int .u32 ((colOf D L G N:Nat):Int) = CS (Bc k)):=by
    show Value.int .u32 _ = Value.int .u32 _;rw [H6.out,U.out,T.out,H3.out,Z.out,W.out,M.out,B.out,C.out]
    rfl
   have a0:(k:Int) < 256:=by omega
   clear X;go_wp2_with fail;refine (Ey k _ hlt).mono ?_;rintro e w' ⟨rfl,rfl⟩;rw [<- C.out];go_wp2_with fail;refine (Ey t _ c).mono ?_;rintro e w' ⟨rfl,rfl⟩;rw [<- B.out];go_wp2_with fail;refine (Ey f _ m).mono ?_;rintro e w' ⟨rfl,rfl⟩;rw [<- M.out];go_wp2_with fail;refine (Kg D L G N _ I J E A).mono ?_;rintro e w' ⟨rfl,rfl⟩;go_wp2;go_roundw
   case rel =>
    rw [V.out];exact ⟨k + 1,by omega,by go_num,x,s.other _ _ (by simp),l.setCell (by simp) _⟩
   case measure=>simp [intOf];omega
  ·obtain rfl:k = 256:=by omega
   have hb2':Blk wr (w.heap.size + 1) 247 (A6 Bc):=by rw [DD] at j;exact j
   have o:=F1 Bc;go_wp2_with (first | (refine AL rfl 247 _ rfl _ rfl hb2' underlying247 rfl (by rw [o];kernel_rfl) ?_) | (refine store_blk rfl 247 _ _ rfl _ rfl rfl s (by rw [o];kernel_rfl) (by rw [AD,o]) (Mg _) ?_;intro w2 z F a8))
   exact Qc (v:=.agg (A6 Bc).toArray) (AG results138 _ _ rfl z underlying247 rfl (by rw [o];kernel_rfl)) rfl ⟨rfl,l.grown F l.size (by intro k H;cases H;exact QE _)⟩
theorem Tryz.z16:(prog.info? 88).map (fun i=>(i.zero,i.size)) = some (some (.agg (AC 16 .u8).toArray),16):=by kernel_rfl
theorem In (a:LU) (w:World) :
 Calls prog 134 #[.agg (a.map byte).toArray] w fun e w'=>∃ S,e = .returned (.func (.func 167) #[] #[.pointer (some ⟨S,0,none⟩)]) /\ w.heap.size <= S /\ Blk w' S 240 (a.map byte) /\ Bl w w':=by
 go_enter func134,ntmps134;go_wp2;go_ret;exact ⟨_,rfl,QE _,Blk.new w _ _,(Below.refl _ _).alloc (QE _) _⟩
theorem If (T:Nat -> Nat) (w:World) :
 Calls prog 136 #[.agg (A6 T).toArray] w fun e w'=>∃ S,e = .returned (.func (.func 168) #[] #[.pointer (some ⟨S,0,none⟩)]) /\ w.heap.size <= S /\ Blk w' S 247 (A6 T) /\ Bl w w':=by
 go_enter func136,ntmps136;go_wp2;go_ret;exact ⟨_,rfl,QE _,Blk.new w _ _,(Below.refl _ _).alloc (QE _) _⟩
def chC (a s:LU) (i:Nat):Value:=byte (a.getD (s.getD i 0).toNat 0)
theorem SE (s:LU) (f:UInt8 -> UInt8) (a:s.length = 16):(List.range 16).map (fun i=>byte (f (s.getD i 0))) = (s.map f).map byte:=by
 apply qA;intro i
 by_cases hi:i < 16
 ·have:i < s.length:=by omega
  simp [hi,this]
 ·rw [List.getElem?_eq_none (by simp;omega),List.getElem?_eq_none (by simp;omega)]
theorem Lf (a s:LU) (S:Nat) (w:World) (O:a.length = 256) (o:s.length = 16) (C:Blk w S 240 (a.map byte)) :
 Calls prog 167 #[.agg (s.map byte).toArray,.pointer (some ⟨S,0,none⟩)] w fun e w'=>e = .returned (.agg ((s.map fun b=>a.getD b.toNat 0).map byte).toArray) /\ Bl w w':=by
 have hz:=(QO Tryz.z16).1;have A:(s.map byte).length = 16:=by rw [QD,o]
 have B:=C.lt;go_enter func167,ntmps167;go_wp2_with (refine AL rfl 88 _ rfl _ rfl (((Blk.new w _ _).alloc _).alloc _) underlying88 rfl (by rw [A];kernel_rfl) ?_)
 go_loopw [5,6,8] (fun _ _ i wr=>∃ k:Nat,k <= 16 /\ i = .int .i64 k /\ Blk wr (w.heap.size + 1 + 1) 88 (BQ (chC a s) (.int .u8 0) 16 k) /\ Blk wr (w.heap.size + 1) 88 (AC 16 .u8) /\ Bl w wr) (fun _ _ i _=>16 - (intOf i).toNat)
 case atStart =>
  refine ⟨0,by omega,rfl,?_,(Blk.new2 w _ _ _).alloc _,(((Below.refl _ _).alloc (QE _) _).alloc (by simp) _).alloc (by simp;omega) _⟩;rw [Cz];exact Blk.newAt _ _ _ _ (by simp)
 case round =>
  obtain ⟨k,n,rfl,c,l,d⟩:=hrel
  by_cases hlt:k < 16
  ·obtain ⟨p,H,t⟩:∃ x:Nat,x < 256 /\ Hid (x = (s.getD k 0).toNat):=⟨_,QW _,rfl⟩;have G:=CB (P:=prog) underlying88 underlying5 rfl (by kernel_rfl) (s.map byte).toArray .i64 k hlt (.int .u8 (p:Int)) (by rw [I1 s k (by omega),t.out]);have j:=C.below d B;have E:wr.cell? ⟨S,p,none⟩ = some (.int .u8 ((a.getD p 0).toNat:Int)):=BV j p (by omega);have M:=c.free k;obtain ⟨u,N⟩:∃ u,wr.cell? ⟨w.heap.size + 1 + 1,k,none⟩ = some u:=⟨_,c.cell k (by rw [Bs];exact hlt)⟩;have m:=c.set k (chC a s k);rw [Cv] at m;obtain ⟨y,F,r⟩:∃ y:Nat,Hid (Value.int .u8 (y:Int) = chC a s k) /\ (a.getD p 0).toNat = y:=⟨_,by show Value.int .u8 _ = Value.int .u8 _;rw [t.out],rfl⟩;rw [r] at E;have I:(k:Int) < 16:=by omega
   have L:(p:Int) < 256:=by omega
   clear r j n;go_wp2;go_roundw
   case rel =>
    rw [F.out];exact ⟨k + 1,by omega,by go_num,m,l.other _ _ (by simp),d.setCell (by simp;omega) _⟩
   case measure=>simp [intOf];omega
  ·obtain rfl:k = 16:=by omega
   rw [DD,show (List.range 16).map (chC a s) = (s.map fun b=>a.getD b.toNat 0).map byte from SE s (fun b=>a.getD b.toNat 0) o] at c;obtain ⟨R,g⟩:=uX (s.map fun b=>a.getD b.toNat 0);have f:(R.map byte).length = 16:=by rw [g,QD,QD,o]
   rw [<- g] at c;have D:Hid (R = s.map fun b=>a.getD b.toNat 0):=g;clear g;go_wp2_with (first | (refine AL rfl 88 _ rfl _ rfl c underlying88 rfl (by rw [f];kernel_rfl) ?_) | (refine store_blk rfl 88 _ _ rfl _ rfl rfl l (by rw [f];kernel_rfl) (by rw [AD,f]) (AF _) ?_;intro w2 q z J))
   exact Qc (v:=.agg (R.map byte).toArray) (AG results167 _ _ rfl q underlying88 rfl (by rw [f];kernel_rfl)) rfl ⟨by rw [D.out],d.grown z d.size (by intro k n;cases n;omega)⟩
def tuC (b:Nat) (s:LU) (i:Nat):Value:=byte (s.getD ((i + 4 * b * (i % 4)) % 16) 0)
theorem DY (b:Nat) (B:Int) (s:LU) (w:World) (x:b = 1 \/ b = 3) (D:B = (b:Int)) (I:s.length = 16) :
 Calls prog 80 #[.agg (s.map byte).toArray,.int .i64 B] w fun e w'=>e = .returned (.agg ((AX b s).map byte).toArray) /\ Bl w w':=by
 subst D;have hz:=(QO Tryz.z16).1;have X:(s.map byte).length = 16:=by rw [QD,I]
 go_enter func80,ntmps80;go_wp2
 go_loopw [6,7] (fun _ i wr=>∃ k:Nat,k <= 16 /\ i = .int .i64 k /\ Blk wr (w.heap.size + 1 + 1) 88 (BQ (tuC b s) (.int .u8 0) 16 k) /\ Blk wr (w.heap.size + 1) 88 (AC 16 .u8) /\ Blk wr w.heap.size 88 (s.map byte) /\ Bl w wr) (fun _ i _=>16 - (intOf i).toNat)
 case atStart =>
  refine ⟨0,by omega,rfl,?_,(Blk.new2 w _ _ _).alloc _,((Blk.new w _ _).alloc _).alloc _,(((Below.refl _ _).alloc (QE _) _).alloc (by simp) _).alloc (by simp;omega) _⟩;rw [Cz];exact Blk.newAt _ _ _ _ (by simp)
 case round =>
  obtain ⟨k,p,rfl,c,l,g,f⟩:=hrel
  by_cases hlt:k < 16
  ·obtain ⟨q,hq,o,U⟩:∃ q:Nat,IntKind.i64.wrap (4 * (b:Int)) = (q:Int) /\ q <= 12 /\ Hid (q = 4 * b):=⟨4 * b,by rw [QH];omega,by omega,rfl⟩;obtain ⟨r,hr,W,J⟩:∃ r:Nat,Int.tmod (k:Int) 4 = (r:Int) /\ r < 4 /\ Hid (r = k % 4):=⟨k % 4,by rw [Qk (by omega)];omega,by omega,rfl⟩;obtain ⟨m,hm,G,O⟩:∃ m:Nat,IntKind.i64.wrap ((q:Int) * (r:Int)) = (m:Int) /\ m <= 36 /\ Hid (m = q * r):=by
    have h:=Nat.mul_le_mul o (show r <= 3 by omega);have e:(q:Int) * (r:Int) = ((q * r:Nat):Int):=by simp
    exact ⟨q * r,by rw [e,QH];omega,h,rfl⟩
   obtain ⟨a,ha,M,N⟩:∃ a:Nat,IntKind.i64.wrap ((k:Int) + (m:Int)) = (a:Int) /\ a <= 52 /\ Hid (a = k + m):=⟨k + m,by rw [QH];omega,by omega,rfl⟩;obtain ⟨j,hj,F,E⟩:∃ j:Nat,Int.tmod (a:Int) 16 = (j:Int) /\ j < 16 /\ Hid (j = a % 16):=⟨a % 16,by rw [Qk (by omega)];omega,by omega,rfl⟩;have L:wr.cell? ⟨w.heap.size,j,none⟩ = some (.int .u8 ((s.getD j 0).toNat:Int)):=BV g j (by omega);obtain ⟨y,T,A⟩:∃ y:Nat,Hid (Value.int .u8 (y:Int) = tuC b s k) /\ (s.getD j 0).toNat = y:=⟨_,by show Value.int .u8 _ = Value.int .u8 _;rw [E.out,N.out,O.out,U.out,J.out],rfl⟩;rw [A] at L;have hf:=c.free k;obtain ⟨u,hu⟩:∃ u,wr.cell? ⟨w.heap.size + 1 + 1,k,none⟩ = some u:=⟨_,c.cell k (by rw [Bs];exact hlt)⟩;have n:=c.set k (tuC b s k);rw [Cv] at n;have V:(k:Int) < 16:=by omega
   have Y:(j:Int) < 16:=by omega
   clear A p x;go_wp2;go_roundw
   case rel =>
    rw [T.out];exact ⟨k + 1,by omega,by go_num,n,l.other _ _ (by simp),g.other _ _ (by simp;omega),f.setCell (by simp;omega) _⟩
   case measure=>simp [intOf];omega
  ·obtain rfl:k = 16:=by omega
   have e:(List.range 16).map (tuC b s) = (AX b s).map byte:=by
    unfold AX tuC;rw [JA]
    rfl
   rw [DD,e] at c;have d:((AX b s).map byte).length = 16:=by rw [QD,A4]
   obtain ⟨R,t⟩:=uX (AX b s);rw [<- t] at c d;have H:Hid (R = AX b s):=t;clear t e;go_wp2_with (first | (refine AL rfl 88 _ rfl _ rfl c underlying88 rfl (by rw [d];kernel_rfl) ?_) | (refine store_blk rfl 88 _ _ rfl _ rfl rfl l (by rw [d];kernel_rfl) (by rw [AD,d]) (AF _) ?_;intro w2 z C Z))
   exact Qc (v:=.agg (R.map byte).toArray) (AG results80 _ _ rfl z underlying88 rfl (by rw [d];kernel_rfl)) rfl ⟨by rw [H.out],f.grown C f.size (by intro k p;cases p;omega)⟩
theorem ZD (x r:Nat) (b:Int) (w:World) (d:x < 4294967296) (a:b = -8 * (r:Int)) (c:r < 4) :
 Calls prog 169 #[.int .u32 x,.int .i64 b] w fun e w'=>e = .returned (.int .u32 (rotN x (32 - 8 * r):Nat)) /\ w' = w:=by
 have j:bits BinOp.and IntKind.u64 0 31 = 0:=by decide
 have m:bits BinOp.and IntKind.u64 18446744073709551608 31 = 24:=by decide
 have g:bits BinOp.and IntKind.u64 18446744073709551600 31 = 16:=by decide
 have f:bits BinOp.and IntKind.u64 18446744073709551592 31 = 8:=by decide
 have k:IntKind.u64.wrap (-8) = 18446744073709551608:=by decide
 have l:IntKind.u64.wrap (-16) = 18446744073709551600:=by decide
 have i:IntKind.u64.wrap (-24) = 18446744073709551592:=by decide
 obtain ⟨rfl,rfl⟩ | ⟨rfl,rfl⟩ | ⟨rfl,rfl⟩ | ⟨rfl,rfl⟩:(r = 0 /\ b = 0) \/ (r = 1 /\ b = -8) \/ (r = 2 /\ b = -16) \/ (r = 3 /\ b = -24):=by omega
 ·clear a c;go_enter func169,ntmps169;go_wp2;go_ret;refine ⟨CH ?_,rfl⟩;have h:=II x 0 d;rw [show ((x:Int) * 2 ^ 0 % 4294967296) = (x:Int) from by rw [Int.pow_zero,Int.mul_one];omega] at h
  simpa [rotN] using h
 ·clear a c;go_enter func169,ntmps169;go_wp2;go_ret;refine ⟨CH ?_,rfl⟩;have h:=II x 24 d
  simpa [rotN] using h
 ·clear a c;go_enter func169,ntmps169;go_wp2;go_ret;refine ⟨CH ?_,rfl⟩;have h:=II x 16 d
  simpa [rotN] using h
 ·clear a c;go_enter func169,ntmps169;go_wp2;go_ret;refine ⟨CH ?_,rfl⟩;have h:=II x 8 d
  simpa [rotN] using h
theorem Rn (x k:Nat) (b:x < 4294967296):rotN x k < 4294967296:=by
 unfold rotN;have a:x / 2 ^ (32 - k % 32) <= x:=qX _ _;exact qO (n:=32) (by omega) (by omega)
theorem TN (T:Nat -> Nat) (a:∀ n,n < 256 -> T n < 4294967296) (s:LU) (c k:Nat):colN T s c k < 4294967296:=by
 induction k with
 | zero=>simp [colN]
 | succ k ih=>exact Qx (n:=32) ih (Rn _ _ (a _ (QW _)))
def miC (T:Nat -> Nat) (s:LU) (j:Nat):Value:=byte (UInt8.ofNat (colN T s (j / 4) 4 / 2 ^ (24 - 8 * (j % 4))))
theorem OZ (T:Nat -> Nat) (s:LU) (S:Nat) (w:World) (Y:∀ n,n < 256 -> T n < 4294967296) (hs:s.length = 16) (N:Blk w S 247 (A6 T)) :
 Calls prog 168 #[.agg (s.map byte).toArray,.pointer (some ⟨S,0,none⟩)] w fun e w'=>e = .returned (.agg ((Al T s).map byte).toArray) /\ Bl w w':=by
 have hz:=(QO Tryz.z16).1;have b5:(s.map byte).length = 16:=by rw [QD,hs]
 have a4:=N.lt;have U:Hid (∀ n,n < 256 -> T n < 4294967296):=Y;have HS:Hid (Blk w S 247 (A6 T)):=N;clear Y N;go_enter func168,ntmps168;go_wp2
 go_loopw [5,6,7,8,13,29] (fun i _ _ _ _ _ wr=>∃ c:Nat,c <= 4 /\ i = .int .i64 ((4 * c:Nat):Int) /\ Blk wr (w.heap.size + 1 + 1) 88 (BQ (miC T s) (.int .u8 0) 16 (4 * c)) /\ Blk wr (w.heap.size + 1) 88 (AC 16 .u8) /\ Blk wr w.heap.size 88 (s.map byte) /\ Bl w wr) (fun i _ _ _ _ _ _=>16 - (intOf i).toNat)
 case atStart =>
  refine ⟨0,by omega,rfl,?_,(Blk.new2 w _ _ _).alloc _,((Blk.new w _ _).alloc _).alloc _,(((Below.refl _ _).alloc (QE _) _).alloc (by simp) _).alloc (by simp;omega) _⟩;rw [Nat.mul_zero,Cz];exact Blk.newAt _ _ _ _ (by simp)
 case round =>
  obtain ⟨c,hc,rfl,b,C,B,a⟩:=hrel;obtain ⟨A,H⟩:=uX (4 * c);have E:Hid (A = 4 * c):=H;rw [<- H] at b ⊢
  by_cases hlt:c < 4
  ·have a9:(A:Int) < 16:=by omega
   have a6:A <= 12:=by omega
   clear H hc;obtain ⟨W,L⟩:=uX (wr);rw [<- L] at b C B a;have Z:Hid (wr = W):=L.symm;clear L;go_wp2
   go_loopw [6,7,13] (fun u _ i l=>∃ k:Nat,k <= 4 /\ i = .int .i64 k /\ u = .int .u32 (colN T s c k:Nat) /\ Hid (l = W)) (fun _ _ i _=>4 - (intOf i).toNat)
   case atStart=>exact ⟨0,by omega,rfl,rfl,Z⟩
   case round =>
    obtain ⟨k,hk,rfl,rfl,g⟩:=hrel
    by_cases hkl:k < 4
    ·obtain ⟨j,hj,F,a2,D⟩:∃ j:Nat,IntKind.i64.wrap ((A:Int) + (k:Int)) = (j:Int) /\ j < 16 /\ (j:Int) < 16 /\ Hid (j = 4 * c + k):=⟨A + k,by rw [QH];omega,by omega,by omega,by show A + k = _;rw [E.out]⟩;obtain ⟨p,I,Hp⟩:∃ x:Nat,x < 256 /\ Hid (x = (s.getD (4 * c + k) 0).toNat):=⟨_,QW _,rfl⟩;have hbs':Blk wr w.heap.size 88 (s.map byte):=by rw [g.out];exact B
     have hS':Blk wr S 247 (A6 T):=by rw [g.out];exact HS.out.below a a4
     have b3:wr.cell? ⟨w.heap.size,j,none⟩ = some (.int .u8 (p:Int)):=by rw [BV hbs' j (by omega),Hp.out,D.out]
     obtain ⟨y,G,Hy⟩:∃ y:Nat,y < 4294967296 /\ Hid (y = T p):=⟨T p,U.out p I,rfl⟩;have a8:wr.cell? ⟨S,p,none⟩ = some (.int .u32 (y:Int)):=by rw [Yt hS' I,Hy.out]
     have b8:(p:Int) < 256:=by omega
     have b0:(k:Int) < 4:=by omega
     obtain ⟨m,hm,Hm⟩:∃ m:Int,IntKind.i64.wrap (-8 * (k:Int)) = m /\ Hid (m = -8 * (k:Int)):=⟨-8 * (k:Int),by rw [QH];omega,rfl⟩;obtain ⟨z,b1,Hz⟩:∃ z:Nat,bits BinOp.xor IntKind.u32 ((colN T s c k:Nat):Int) ((rotN y (32 - 8 * k):Nat):Int) = (z:Int) /\ Hid (z = colN T s c (k + 1)):=by
      refine ⟨colN T s c k ^^^ rotN y (32 - 8 * k),u32_xor_nat _ _ (TN T U.out s c k) (Rn _ _ G),?_⟩;show colN T s c k ^^^ rotN y (32 - 8 * k) = colN T s c k ^^^ rotN (T (s.getD (4 * c + k) 0).toNat) (32 - 8 * k);rw [Hy.out,Hp.out]
     clear hbs' hS' b C B;go_wp2_with (go_at_call 169;refine (ZD y k _ _ G Hm.out hkl).mono ?_;rintro e w' ⟨rfl,rfl⟩)
     go_roundw
     case rel=>exact ⟨k + 1,by omega,by go_num,by rw [Hz.out],g⟩
     case measure=>simp [intOf];omega
    ·obtain rfl:k = 4:=by omega
     obtain ⟨V,M,HV⟩:∃ V,V = colN T s c 4 /\ Hid (V = colN T s c 4):=⟨_,rfl,rfl⟩;have a7:V < 4294967296:=by rw [M];exact TN T U.out s c 4
     have f:Blk wr (w.heap.size + 1 + 1) 88 (BQ (miC T s) (.int .u8 0) 16 A):=by rw [g.out];exact b
     have o:Blk wr (w.heap.size + 1) 88 (AC 16 .u8):=by rw [g.out];exact C
     have q:Blk wr w.heap.size 88 (s.map byte):=by rw [g.out];exact B
     have d:Bl w wr:=by rw [g.out];exact a
     rw [<- M];clear b C B a M;go_wp2
     go_loopw [8,29] (fun _ i l=>∃ r:Nat,r <= 4 /\ i = .int .i64 r /\ Blk l (w.heap.size + 1 + 1) 88 (BQ (miC T s) (.int .u8 0) 16 (A + r)) /\ Blk l (w.heap.size + 1) 88 (AC 16 .u8) /\ Blk l w.heap.size 88 (s.map byte) /\ Bl w l) (fun _ i _=>4 - (intOf i).toNat)
     case atStart=>exact ⟨0,by omega,rfl,f,o,q,d⟩
     case round =>
      clear f o q d;obtain ⟨r,hr,rfl,f,o,q,d⟩:=hrel
      by_cases hrl:r < 4
      ·obtain ⟨j,hj,F,a2,D⟩:∃ j:Nat,IntKind.i64.wrap ((A:Int) + (r:Int)) = (j:Int) /\ j < 16 /\ (j:Int) < 16 /\ Hid (j = A + r):=⟨A + r,by rw [QH];omega,by omega,by omega,rfl⟩;obtain ⟨m1,b4,a3⟩:∃ m:Nat,IntKind.i64.wrap (8 * (r:Int)) = (m:Int) /\ Hid (m = 8 * r):=⟨8 * r,by rw [QH];omega,rfl⟩;obtain ⟨m2,b2,a5,a1⟩:∃ m:Nat,IntKind.i64.wrap (24 - (m1:Int)) = (m:Int) /\ m <= 24 /\ Hid (m = 24 - 8 * r):=⟨24 - 8 * r,by have:=a3.out;rw [QH];omega,by omega,rfl⟩;have hf:=f.free j;obtain ⟨u,hu⟩:∃ u,wr.cell? ⟨w.heap.size + 1 + 1,j,none⟩ = some u:=⟨_,f.cell j (by rw [Bs];exact F)⟩;have J:=f.set (A + r) (miC T s (A + r));rw [Cv,<- D.out] at J;have HW:Hid (Value.int .u8 ((V:Int) / 2 ^ m2 % 256) = miC T s j):=by
        show Value.int .u8 _ = Value.int .u8 _
        congr 1
        have e1:(A + r) / 4 = c:=by have:=E.out;omega
        have e2:(A + r) % 4 = r:=by have:=E.out;omega
        rw [D.out,e1,e2,<- HV.out,<- a1.out,Qb];simp
       have b6:(r:Int) < 4:=by omega
       go_wp2;go_roundw
       case rel =>
        rw [HW.out];exact ⟨r + 1,by omega,by go_num,by rw [show A + (r + 1) = j + 1 from by rw [D.out];omega];exact J,o.other _ _ (by simp),q.other _ _ (by simp;omega),d.setCell (by simp;omega) _⟩
       case measure=>simp [intOf];omega
      ·obtain rfl:r = 4:=by omega
       go_wp2;go_roundw
       case rel=>exact ⟨c + 1,by omega,by have:=E.out;go_num,by rw [show 4 * (c + 1) = A + 4 from by rw [E.out];omega];exact f,o,q,d⟩
       case measure=>simp [intOf];omega
  ·obtain rfl:c = 4:=by omega
   subst H;have e:(List.range 16).map (miC T s) = (Al T s).map byte:=by
    unfold Al miC;rw [JA]
    rfl
   rw [show 4 * 4 = 16 from rfl,DD,e] at b;have t:((Al T s).map byte).length = 16:=by rw [QD,Ct]
   obtain ⟨R,O⟩:=uX (Al T s);rw [<- O] at b t;have HR:Hid (R = Al T s):=O;clear O e;go_wp2_with (first | (refine AL rfl 88 _ rfl _ rfl b underlying88 rfl (by rw [t];kernel_rfl) ?_) | (refine store_blk rfl 88 _ _ rfl _ rfl rfl C (by rw [t];kernel_rfl) (by rw [AD,t]) (AF _) ?_;intro w2 X a0 b7))
   exact Qc (v:=.agg (R.map byte).toArray) (AG results168 _ _ rfl X underlying88 rfl (by rw [t];kernel_rfl)) rfl ⟨by rw [HR.out],a.grown a0 a.size (by intro k hk;cases hk;omega)⟩
end Go.Proofs.YtbkokcjolanpeaaGreatDoor
