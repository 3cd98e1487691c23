import Derived.Test.YtbkokcjolanpeaaGreatDoorMkE
set_option maxRecDepth 100000
set_option maxHeartbeats 10000000
namespace Go.Proofs.YtbkokcjolanpeaaGreatDoor
open Go.RowKit Go.Proofs.Tryz Act
theorem V7 (l:LU) (t:Nat):l.foldl (fun t b=>2 * t + b.toNat) t = t * 2 ^ l.length + AI l:=by
 induction l generalizing t with
 | nil=>simp [AI]
 | cons c l ih =>
   have a:=ih (2 * t + c.toNat);have d:=ih (2 * 0 + c.toNat);simp only [qI,Qn,AI] at *;rw [a,d,Nat.pow_succ,Nat.add_mul,Nat.add_mul,Nat.mul_comm 2 t,Nat.mul_assoc t 2,Nat.mul_comm 2 (2 ^ l.length)];omega
theorem CM (a b:LU):AI (a ++ b) = AI a * 2 ^ b.length + AI b:=by
 unfold AI;rw [List.foldl_append,V7]
 rfl
theorem Ul:∀ x:Nat,x < 256 -> AI (CG (UInt8.ofNat x)) = x:=by decide +kernel
theorem Vz (x:UInt8):AI (CG x) = x.toNat:=by
 have:=Ul x.toNat x.toNat_lt
 rwa [UInt8.ofNat_toNat] at this
theorem Oc (bs:LU):wordN bs = AI (Ae bs):=by
 unfold wordN;have:∀ t,bs.foldl (fun t b=>256 * t + b.toNat) t = t * 2 ^ (Ae bs).length + AI (Ae bs):=by
  induction bs with
  | nil=>intro t;simp [Ae,AI]
  | cons c bs ih =>
    intro t;rw [qI,ih];have e:Ae (c :: bs) = CG c ++ Ae bs:=by simp [Ae]
    rw [e,CM,QC,B6,Vz,Nat.pow_add,Nat.add_mul];rw [show (2:Nat) ^ 8 = 256 from rfl,<- Nat.mul_assoc,Nat.mul_comm t 256];omega
 have h:=this 0
 simpa using h
theorem Eg {l:LU} (h:AP l) (n:Nat):AP (l.drop n):=fun b a=>h b (qn a)
theorem Ee {l:LU} (h:AP l) (n:Nat):AP (l.take n):=fun b a=>h b (qV a)
theorem Dg (l:LU) (h:AP l) (n:Nat):AI l / 2 ^ (l.length - n) = AI (l.take n) /\ AI l % 2 ^ (l.length - n) = AI (l.drop n):=by
 have e:AI l = AI (l.take n) * 2 ^ (l.length - n) + AI (l.drop n):=by
  have:=CM (l.take n) (l.drop n);rw [qk,QN] at this;exact this
 have a:AI (l.drop n) < 2 ^ (l.length - n):=by
  have:=GO _ (Eg h n)
  rwa [QN] at this
 have b:0 < 2 ^ (l.length - n):=Nat.pow_pos (by omega);rw [e];exact ⟨by rw [Nat.mul_comm,Nat.mul_add_div b,Nat.div_eq_of_lt a,qq],by rw [Nat.mul_comm,Nat.mul_add_mod,qF a]⟩
theorem IP (l:LU) (h:AP l) (n:Nat) (b:1 <= n) (a:n <= l.length):AI l / 2 ^ (l.length - n) % 2 = (l.getD (n - 1) 0).toNat:=by
 rw [(Dg l h n).1];obtain ⟨m,rfl⟩:∃ m,n = m + 1:=⟨n - 1,by omega⟩;rw [B3 l m (by omega),Io];have c:=h l[m] (Qd (by omega));have e:l.getD (m + 1 - 1) 0 = l[m]:=by simp [show m < l.length by omega]
 rw [e];omega
theorem Ij (l:LU) (h:AP l) (a:LU) (d:∀ t ∈ a,1 <= t.toNat /\ t.toNat <= l.length):takeN (AI l) l.length a = AI (Ak l (Dr a)):=by
 unfold takeN AI Ak Dr;rw [JA,List.foldl_map];have:∀ t,a.foldl (fun t n=>2 * t + AI l / 2 ^ (l.length - n.toNat) % 2) t = a.foldl (fun t n=>2 * t + (l.getD (n.toNat - 1) 0).toNat) t:=by
  induction a with
  | nil=>intro t;rfl
  | cons c a ih =>
    intro t;have b:=d c (by simp);rw [qI,qI,IP l h c.toNat b.1 b.2];exact ih (fun t h=>d t (by simp [h])) _
 exact this 0
theorem Zb (s t x y:Nat) (f:x <= 1) (c:y <= 1):(2 * s + x) ^^^ (2 * t + y) = 2 * (s ^^^ t) + (x ^^^ y):=by
 have d:((2 * s + x) ^^^ (2 * t + y)) / 2 = s ^^^ t:=by
  rw [Nat.xor_div_two,show (2 * s + x) / 2 = s from by omega,show (2 * t + y) / 2 = t from by omega]
 have g:((2 * s + x) ^^^ (2 * t + y)) % 2 = x ^^^ y:=by
  have:=Nat.xor_mod_two_pow (a:=2 * s + x) (b:=2 * t + y) (n:=1);rw [show (2:Nat) ^ 1 = 2 from rfl,show (2 * s + x) % 2 = x from by omega,show (2 * t + y) % 2 = y from by omega] at this;exact this
 omega
theorem V1 (s t x y:Nat) (f:x <= 1) (c:y <= 1):(2 * s + x) ||| (2 * t + y) = 2 * (s ||| t) + (x ||| y):=by
 have d:((2 * s + x) ||| (2 * t + y)) / 2 = s ||| t:=by
  rw [Nat.or_div_two,show (2 * s + x) / 2 = s from by omega,show (2 * t + y) / 2 = t from by omega]
 have g:((2 * s + x) ||| (2 * t + y)) % 2 = x ||| y:=by
  have:=Nat.or_mod_two_pow (a:=2 * s + x) (b:=2 * t + y) (n:=1);rw [show (2:Nat) ^ 1 = 2 from rfl,show (2 * s + x) % 2 = x from by omega,show (2 * t + y) % 2 = y from by omega] at this;exact this
 omega
theorem Po (a b:LU) (h:a.length = b.length) (d:AP a) (f:AP b):AI (AE a b) = AI a ^^^ AI b:=by
 have:∀ (a b:LU),a.length = b.length -> AP a -> AP b -> ∀ s t,(AE a b).foldl (fun t b=>2 * t + b.toNat) (s ^^^ t) = a.foldl (fun t b=>2 * t + b.toNat) s ^^^ b.foldl (fun t b=>2 * t + b.toNat) t:=by
  intro a
  induction a with
  | nil =>
    intro b g _ _ s t
    cases b with
    | nil=>rfl
    | cons c b=>simp at g
  | cons x a ih =>
    intro b g d f s t
    cases b with
    | nil=>simp at g
    | cons y b =>
      have j:=d x (by simp);have i:=f y (by simp);have e:AE (x :: a) (y :: b) = (x ^^^ y) :: AE a b:=rfl;rw [e,qI,qI,qI,Qs,<- Zb s t _ _ j i];exact ih b (by simpa using g) (fun z hz=>d z (by simp [hz])) (fun z hz=>f z (by simp [hz])) _ _
 simpa [AI] using this a b h d f 0 0
theorem Yh (a b s:Nat):(a ||| b) / 2 ^ s % 2 = a / 2 ^ s % 2 ||| b / 2 ^ s % 2:=by
 have h:=Nat.or_div_two_pow (a:=a) (b:=b) (n:=s);rw [h];have:=Nat.or_mod_two_pow (a:=a / 2 ^ s) (b:=b / 2 ^ s) (n:=1)
 simpa using this
theorem Zr (a b f:Nat) (d:LU):takeN (a ||| b) f d = takeN a f d ||| takeN b f d:=by
 unfold takeN;have:∀ (d:LU) (s t:Nat),d.foldl (fun t n=>2 * t + (a ||| b) / 2 ^ (f - n.toNat) % 2) (s ||| t) = d.foldl (fun t n=>2 * t + a / 2 ^ (f - n.toNat) % 2) s ||| d.foldl (fun t n=>2 * t + b / 2 ^ (f - n.toNat) % 2) t:=by
  intro d
  induction d with
  | nil=>intro s t;rfl
  | cons c d ih =>
    intro s t;rw [qI,qI,qI,Yh,<- V1 s t _ _ (by omega) (by omega)];exact ih _ _
 simpa using this d 0 0
theorem XR (l:LU) (c:l.length = 28) (d:AP l) (t:Nat) (i:1 <= t) (g:t <= 2):turnN (AI l) t = AI (IL l t):=by
 unfold turnN IL;obtain ⟨b,a⟩:=Dg l d t;rw [c] at b a;rw [CM,QI,c,Nat.min_eq_left (by omega),<- b,<- a];have f:t = 1 \/ t = 2:=by omega
 rcases f with rfl | rfl
 ·show AI l * 2 % 268435456 + AI l / 134217728 = AI l % 134217728 * 2 + AI l / 134217728;omega
 ·show AI l * 4 % 268435456 + AI l / 67108864 = AI l % 67108864 * 4 + AI l / 67108864;omega
theorem TR (l:LU) (b:l.length = 28) (c:AP l) (k:Nat) (d:k <= 16):halfN (AI l) k = AI (As l k):=by
 induction k with
 | zero=>rfl
 | succ k ih =>
   have a:=GR k (by omega);show turnN (halfN (AI l) k) (BO.getD k 0) = AI (IL (As l k) (BO.getD k 0));rw [ih (by omega)];exact XR _ (DW l b k (by omega)) (F2 c k) _ a.1 a.2
theorem Zl (key:LU) (b:key.length = 8):Id key = AI (cdS key):=by
 unfold Id cdS;rw [Oc];have a:(Ae key).length = 64:=by rw [B4,b]
 have:=Ij (Ae key) (Hu key) D8 (by rw [a];exact VP);rw [a] at this;exact this
theorem Ws (key:LU) (m:key.length = 8) (k:Nat) (o:k < 16):keyN key k = AI (GL key k):=by
 unfold keyN GL;have a:=MR key;obtain ⟨i,f⟩:=Dg (cdS key) a 28;rw [E8] at i f;have e1':AI (cdS key) / 268435456 = AI ((cdS key).take 28):=i;have e2':AI (cdS key) % 268435456 = AI ((cdS key).drop 28):=f;have g:((cdS key).take 28).length = 28:=by rw [QI,E8];rfl
 have j:((cdS key).drop 28).length = 28:=by rw [QN,E8]
 rw [Zl key m,e1',e2',TR _ g (Ee a 28) _ (by omega),TR _ j (Eg a 28) _ (by omega)];have n:=DW _ g (k + 1) (by omega);have b:=DW _ j (k + 1) (by omega);have l:(As ((cdS key).take 28) (k + 1) ++ As ((cdS key).drop 28) (k + 1)).length = 56:=by rw [QC,n,b]
 have d:=CM (As ((cdS key).take 28) (k + 1)) (As ((cdS key).drop 28) (k + 1));rw [b] at d;have c:=Ij _ (GJ (F2 (Ee a 28) (k + 1)) (F2 (Eg a 28) (k + 1))) pc2Tab (by rw [l];exact WI);rw [l,d] at c;exact c
theorem MJ (l:LU) (h:AP l) (n m:Nat) (b:n + m <= l.length):AI l / 2 ^ (l.length - (n + m)) % 2 ^ m = AI ((l.drop n).take m):=by
 rw [(Dg l h (n + m)).1];have a:=(Dg (l.take (n + m)) (Ee h _) n).2;rw [QI,Nat.min_eq_left b,show n + m - n = m from by omega] at a;rw [a,List.drop_take,show n + m - n = m from by omega]
theorem Lw (r:LU) (n m:Nat):((Ak r Ay).drop n).take m = Ak r ((Ay.drop n).take m):=by
 unfold Ak;rw [<- List.map_drop,<- List.map_take]
theorem Zu (k:Nat) (a:1 <= k) (b:k <= 6):(Ay.drop (6 * k)).take 6 = [4 * k,4 * k + 1,4 * k + 2,4 * k + 3,4 * k + 4,4 * k + 5]:=by
 have:k = 1 \/ k = 2 \/ k = 3 \/ k = 4 \/ k = 5 \/ k = 6:=by omega
 rcases this with rfl | rfl | rfl | rfl | rfl | rfl <;> decide +kernel
theorem XF:(Ay.drop (6 * 0)).take 6 = [32,1,2,3,4,5]:=by decide +kernel
theorem YB:(Ay.drop (6 * 7)).take 6 = [28,29,30,31,32,1]:=by decide +kernel
theorem ag (r:LU) (n:Nat) (h:n + 6 <= r.length):(r.drop n).take 6 = [r.getD n 0,r.getD (n + 1) 0,r.getD (n + 2) 0,r.getD (n + 3) 0,r.getD (n + 4) 0,r.getD (n + 5) 0]:=by
 apply qL
 ·simp;omega
 ·intro i b a;simp only [Qn,qH] at a;have:i = 0 \/ i = 1 \/ i = 2 \/ i = 3 \/ i = 4 \/ i = 5:=by omega
  rcases this with rfl | rfl | rfl | rfl | rfl | rfl <;> simp [show n < r.length by omega,show n + 1 < r.length by omega,show n + 2 < r.length by omega,show n + 3 < r.length by omega,show n + 4 < r.length by omega,show n + 5 < r.length by omega]
theorem MG (a b:Nat):(a ||| b) % 64 = a % 64 ||| b % 64:=by
 have:=Nat.or_mod_two_pow (a:=a) (b:=b) (n:=6)
 simpa using this
theorem XG (a b:Nat):(a ^^^ b) % 64 = a % 64 ^^^ b % 64:=by
 have:=Nat.xor_mod_two_pow (a:=a) (b:=b) (n:=6)
 simpa using this
theorem aZ (r:LU) (b:r.length = 32) (a:AP r) (k:Nat) (d:1 <= k) (c:k <= 6):rotN (AI r) (4 * k + 5) % 64 = AI (((Ak r Ay).drop (6 * k)).take 6):=by
 rw [Lw,Zu k d c];have e:Ak r [4 * k,4 * k + 1,4 * k + 2,4 * k + 3,4 * k + 4,4 * k + 5] = (r.drop (4 * k - 1)).take 6:=by
  rw [ag r (4 * k - 1) (by omega)];simp only [Ak,qD,qN];rw [show 4 * k + 1 - 1 = 4 * k - 1 + 1 from by omega,show 4 * k + 2 - 1 = 4 * k - 1 + 2 from by omega,show 4 * k + 3 - 1 = 4 * k - 1 + 3 from by omega,show 4 * k + 4 - 1 = 4 * k - 1 + 4 from by omega,show 4 * k + 5 - 1 = 4 * k - 1 + 5 from by omega]
 rw [e,<- MJ r a (4 * k - 1) 6 (by omega),b];have f:AI r < 4294967296:=by have:=GO r a;rw [b] at this;exact this
 unfold rotN;rw [MG];have:k = 1 \/ k = 2 \/ k = 3 \/ k = 4 \/ k = 5 \/ k = 6:=by omega
 rcases this with rfl | rfl | rfl | rfl | rfl | rfl
 ·rw [show AI r * 2 ^ ((4 * 1 + 5) % 32) % 4294967296 % 64 = 0 from by show AI r * 512 % 4294967296 % 64 = 0;omega,Nat.zero_or]
 ·rw [show AI r * 2 ^ ((4 * 2 + 5) % 32) % 4294967296 % 64 = 0 from by show AI r * 8192 % 4294967296 % 64 = 0;omega,Nat.zero_or]
 ·rw [show AI r * 2 ^ ((4 * 3 + 5) % 32) % 4294967296 % 64 = 0 from by show AI r * 131072 % 4294967296 % 64 = 0;omega,Nat.zero_or]
 ·rw [show AI r * 2 ^ ((4 * 4 + 5) % 32) % 4294967296 % 64 = 0 from by show AI r * 2097152 % 4294967296 % 64 = 0;omega,Nat.zero_or]
 ·rw [show AI r * 2 ^ ((4 * 5 + 5) % 32) % 4294967296 % 64 = 0 from by show AI r * 33554432 % 4294967296 % 64 = 0;omega,Nat.zero_or]
 ·rw [show AI r * 2 ^ ((4 * 6 + 5) % 32) % 4294967296 % 64 = 0 from by show AI r * 536870912 % 4294967296 % 64 = 0;omega,Nat.zero_or]
theorem V5 (r:LU) (a:r.length = 32) (b:AP r):rotN (AI r) 5 % 64 = AI (((Ak r Ay).drop (6 * 0)).take 6):=by
 rw [Lw,XF];have l:AI r < 4294967296:=by have:=GO r b;rw [a] at this;exact this
 have g:AI (r.take 5) = AI r / 134217728:=by have:=(Dg r b 5).1;rw [a] at this;exact this.symm
 have c:=IP r b 32 (by omega) (by omega);rw [a] at c;have e2':AI r % 2 = (r.getD 31 0).toNat:=by simpa using c
 have j:Ak r [32,1,2,3,4,5] = [r.getD 31 0] ++ r.take 5:=by
  have:r.take 5 = [r.getD 0 0,r.getD 1 0,r.getD 2 0,r.getD 3 0,r.getD 4 0]:=by
   apply qL
   ·simp;omega
   ·intro i k f;simp only [Qn,qH] at f;have:i = 0 \/ i = 1 \/ i = 2 \/ i = 3 \/ i = 4:=by omega
    rcases this with rfl | rfl | rfl | rfl | rfl <;> simp [show 0 < r.length by omega,show 1 < r.length by omega,show 2 < r.length by omega,show 3 < r.length by omega,show 4 < r.length by omega]
  rw [this];rfl
 rw [j,CM,g,QI,a];have d:AI [r.getD 31 0] = AI r % 2:=by rw [e2'];simp [AI]
 rw [d];unfold rotN;rw [MG];show AI r * 32 % 4294967296 % 64 ||| AI r / 134217728 % 64 = AI r % 2 * 32 + AI r / 134217728;rw [nat_join 5 _ _ (by omega) (by omega)];omega
theorem YL (r:LU) (b:r.length = 32) (a:AP r):rotN (AI r) 33 % 64 = AI (((Ak r Ay).drop (6 * 7)).take 6):=by
 rw [Lw,YB];have k:AI r < 4294967296:=by have:=GO r a;rw [b] at this;exact this
 have f:AI (r.drop 27) = AI r % 32:=by have:=(Dg r a 27).2;rw [b] at this;exact this.symm
 have c:=IP r a 1 (by omega) (by omega);rw [b] at c;have e2':AI r / 2147483648 = (r.getD 0 0).toNat:=by
  have:AI r / 2147483648 % 2 = (r.getD 0 0).toNat:=c;omega
 have g:Ak r [28,29,30,31,32,1] = r.drop 27 ++ [r.getD 0 0]:=by
  have:r.drop 27 = [r.getD 27 0,r.getD 28 0,r.getD 29 0,r.getD 30 0,r.getD 31 0]:=by
   apply qL
   ·simp;omega
   ·intro i j d;simp only [Qn,qH] at d;have:i = 0 \/ i = 1 \/ i = 2 \/ i = 3 \/ i = 4:=by omega
    rcases this with rfl | rfl | rfl | rfl | rfl <;> simp [show 27 < r.length by omega,show 28 < r.length by omega,show 29 < r.length by omega,show 30 < r.length by omega,show 31 < r.length by omega]
  rw [this];rfl
 rw [g,Io,f,<- e2'];unfold rotN;rw [MG];show AI r * 2 % 4294967296 % 64 ||| AI r / 2147483648 % 64 = 2 * (AI r % 32) + AI r / 2147483648;rw [nat_join 1 _ _ (by omega) (by omega)];omega
theorem dR (r:LU) (a:r.length = 32) (b:AP r) (k:Nat) (c:k < 8):rotN (AI r) (4 * k + 5) % 64 = AI (((Ak r Ay).drop (6 * k)).take 6):=by
 by_cases h0:k = 0
 ·subst h0;exact V5 r a b
 ·by_cases h7:k = 7
  ·subst h7;exact YL r a b
  ·exact aZ r a b k (by omega) (by omega)
theorem XL (r a:LU) (j:r.length = 32) (c:a.length = 48) (f:AP r) (b:AP a) (k:Nat) (g:k < 8) :
 K9 (AI r) (AI a) k = AI (((AE (Ak r Ay) a).drop (6 * k)).take 6):=by
 unfold K9;rw [XG,dR r j f k g];have d:(Ak r Ay).length = 48:=by simp [Ak,Dz]
 have i:AI a / 2 ^ (42 - 6 * k) % 4294967296 % 64 = AI ((a.drop (6 * k)).take 6):=by
  rw [<- MJ a b (6 * k) 6 (by omega),c,show 48 - (6 * k + 6) = 42 - 6 * k from by omega];show _ = AI a / 2 ^ (42 - 6 * k) % 64
  generalize AI a / 2 ^ (42 - 6 * k) = z
  omega
 rw [i,<- Po _ _ (by simp [d,c]) (Ee (Eg (El f) _) _) (Ee (Eg b _) _)]
 congr 1
 unfold AE;rw [List.drop_zipWith,List.take_zipWith]
theorem aM:∀ d:Nat,d < 16 -> AI (nib d) = d:=by decide +kernel
theorem dV (k g:Nat) (b:k < 8) (a:g < 64):Nl k g < 16:=by
 unfold Nl;exact MN _ (by omega)
theorem bJ (x:LU) (b:AP x) (n:Nat):AI ((x.drop n).take 6) < 64:=by
 have c:=GO _ (Ee (Eg b n) 6);have a:((x.drop n).take 6).length <= 6:=by simp;omega
 have d:=qo (n:=2) (by omega) a;omega
theorem ZC (r a:LU) (m:r.length = 32) (j:a.length = 48) (g:AP r) (b:AP a) (k:Nat) (o:k <= 8) :
 mixN (AI r) (AI a) k = takeN (AI (CI (AE (Ak r Ay) a) k) * 2 ^ (32 - 4 * k)) 32 pTab:=by
 induction k with
 | zero =>
   have e:takeN 0 32 pTab = 0:=by decide +kernel
   show 0 = takeN (AI [] * 2 ^ 32) 32 pTab;rw [show AI [] = 0 from rfl,Nat.zero_mul,e]
 | succ k ih =>
   have l:AP (AE (Ak r Ay) a):=MU (El g) b;have c:Jn (AE (Ak r Ay) a) k < 16:=dV k _ (by omega) (bJ _ l _);show mixN (AI r) (AI a) k ||| mergedN k (K9 (AI r) (AI a) k) = takeN (AI (CI (AE (Ak r Ay) a) k ++ nib (Jn (AE (Ak r Ay) a) k)) * 2 ^ (32 - 4 * (k + 1))) 32 pTab;rw [ih (by omega),XL r a m j g b k (by omega)];show takeN _ 32 pTab ||| takeN (Jn (AE (Ak r Ay) a) k * 2 ^ (28 - 4 * k)) 32 pTab = _;rw [<- Zr,CM,Jl,aM _ c]
   congr 1
   generalize Jn (AE (Ak r Ay) a) k = d at c ⊢
   generalize AI (CI (AE (Ak r Ay) a) k) = V
   have f:2 ^ (32 - 4 * k) = 16 * 2 ^ (28 - 4 * k):=by rw [show 32 - 4 * k = (28 - 4 * k) + 4 from by omega,Nat.pow_add];omega
   have n:0 < 2 ^ (28 - 4 * k):=Nat.pow_pos (by omega);have i:d * 2 ^ (28 - 4 * k) < 2 ^ (32 - 4 * k):=by rw [f];exact Nat.mul_lt_mul_of_pos_right c n
   rw [nat_join (32 - 4 * k) _ _ (Nat.mul_mod_left _ _) i,show 32 - 4 * (k + 1) = 28 - 4 * k from by omega,f,Nat.add_mul,Nat.mul_assoc]
theorem bh (r a:LU) (g:r.length = 32) (c:a.length = 48) (f:AP r) (d:AP a):mixN (AI r) (AI a) 8 = AI (Db r a):=by
 rw [ZC r a g c f d 8 (by omega)];have b:(CI (AE (Ak r Ay) a) 8).length = 32:=Gs _ 8;have h:=Ij (CI (AE (Ak r Ay) a) 8) (Le _ _) pTab (by rw [b];exact Tn);rw [b] at h;show takeN (AI (CI (AE (Ak r Ay) a) 8) * 1) 32 pTab = _;rw [Nat.mul_one,h]
 rfl
theorem Zw (b:List Nat) (a:Nat -> LU) (l r:LU) (i:l.length = 32) (m:r.length = 32) (f:AP l) (n:AP r) (d:∀ k,k < 16 -> b.getD k 0 = AI (a k) /\ (a k).length = 48 /\ AP (a k)) (k:Nat) (s:k <= 16) :
 Co b (AI l) (AI r) k = (AI (BC a l r k).1,AI (BC a l r k).2):=by
 induction k with
 | zero=>rfl
 | succ k ih =>
   obtain ⟨q,o,j,p⟩:=L0 a l r i m f n k;obtain ⟨e,c,g⟩:=d k (by omega);show ((Co b (AI l) (AI r) k).2,(Co b (AI l) (AI r) k).1 ^^^ mixN (Co b (AI l) (AI r) k).2 (b.getD k 0) 8) = (AI (BC a l r k).2,AI (AE (BC a l r k).1 (Db (BC a l r k).2 (a k))));rw [ih (by omega),e,bh _ _ o c p g,Po _ _ (by rw [q,G1]) j (LP _ _)]
theorem UC (l:LU) (c:l.length = 64) (d:AP l):Di (AI l) = Ar l:=by
 apply qL
 ·rw [blockN_length];unfold Ar;rw [Ck,c]
 ·intro i b f;rw [blockN_length] at b;rw [Ji _ _ b];have e:(Ar l)[i] = Gl l l.length i:=by simp [Ar,CR]
  rw [e];unfold Gl seg;rw [qt];have a:=MJ l d (8 * i) 8 (by omega);rw [c,show 64 - (8 * i + 8) = 56 - 8 * i from by omega] at a;rw [<- a];apply UInt8.toNat_inj.1;rw [Qb,Qb];omega
theorem aI (l:LU) (p:Nat) (b:UInt8) (a:p < l.length) (i:l.getD p 0 = 0):AI (l.set p b) = AI l + b.toNat * 2 ^ (l.length - 1 - p):=by
 have j:l = l.take p ++ ([0] ++ l.drop (p + 1)):=by
  have k:l[p] = 0:=by rw [<- i];simp [a]
  have d:=qg a;rw [k] at d;have c:=qk p l;rw [d] at c;exact c.symm
 have g:l.set p b = l.take p ++ ([b] ++ l.drop (p + 1)):=by
  rw [List.set_eq_take_append_cons_drop,if_pos a];rfl
 have f:AI l = AI (l.take p) * 2 ^ ([0] ++ l.drop (p + 1)).length + (AI [0] * 2 ^ (l.drop (p + 1)).length + AI (l.drop (p + 1))):=by
  rw [<- CM [0],<- CM,<- j]
 rw [g,CM,CM,f];have z:AI [0] = 0:=rfl;have y:AI [b] = b.toNat:=by simp [AI]
 rw [z,y];simp only [QC,Qn,qH,QN];rw [show l.length - (p + 1) = l.length - 1 - p from by omega];omega
theorem Yj:∀ i,i < 64 -> ∀ j,j < i -> A7.getD j 0 - 1 ≠ A7.getD i 0 - 1:=by decide +kernel
theorem Xa (a:LU) (k p:Nat) (h:∀ j,j < k -> A7.getD j 0 - 1 ≠ p):(DP a k).getD p 0 = 0:=by
 induction k with
 | zero =>
   show (List.replicate 64 (0:UInt8)).getD p 0 = 0;rw [QA,List.getElem?_replicate]
   split <;> rfl
 | succ k ih =>
   show ((DP a k).set (A7.getD k 0 - 1) (a.getD k 0)).getD p 0 = 0;rw [QA,List.getElem?_set_ne (h k (by omega)),<- QA];exact ih (fun j b=>h j (by omega))
theorem dJ (k:Nat) (b:k < 64):(CV.getD k 0).toNat = A7.getD k 0:=by
 have a:k < CV.length:=b;unfold A7 Dr;simp [a]
theorem Z0 (a b s:Nat) (k:b <= 1) (f:a / 2 ^ s % 2 = 0):a ||| b * 2 ^ s = a + b * 2 ^ s:=by
 induction s generalizing a with
 | zero =>
   have d:a % 2 = 0:=by simpa using f
   rw [Nat.pow_zero,Nat.mul_one];exact nat_join 1 a b (by simpa using d) (by omega)
 | succ s ih =>
   have d:a / 2 / 2 ^ s % 2 = 0:=by rw [Nat.div_div_eq_div_mul,Nat.mul_comm 2,<- Nat.pow_succ];exact f
   have g:=ih (a / 2) d;have c:=V1 (a / 2) (b * 2 ^ s) (a % 2) 0 (by omega) (by omega);rw [Nat.or_zero,g] at c;have j:2 * (a / 2) + a % 2 = a:=by omega
   have i:b * 2 ^ (s + 1) = 2 * (b * 2 ^ s) + 0:=by rw [Nat.pow_succ,<- Nat.mul_assoc];omega
   rw [j] at c;rw [i,c];omega
theorem df (a:LU) (m:a.length = 64) (d:AP a) (k:Nat) (n:k <= 64):putN (AI a) 64 CV k = AI (DP a k):=by
 induction k with
 | zero=>show 0 = AI (List.replicate 64 0);decide +kernel
 | succ k ih =>
   have f:=MQ (A7.getD k 0) (by have:k < A7.length:=(by rw [Cj];omega);simp [this]);have hz:=Xa a k (A7.getD k 0 - 1) (Yj k (by omega));have l:=aI (DP a k) (A7.getD k 0 - 1) (a.getD k 0) (by rw [DT];omega) hz;show putN (AI a) 64 CV k ||| AI a / 2 ^ (CV.length - 1 - k) % 2 * 2 ^ (64 - (CV.getD k 0).toNat) = AI ((DP a k).set (A7.getD k 0 - 1) (a.getD k 0));rw [l,ih (by omega),dJ k (by omega),DT];have b:=IP a d (k + 1) (by omega) (by omega);rw [m] at b;have j:CV.length - 1 - k = 64 - (k + 1):=by show 64 - 1 - k = _;omega
   have i:a.getD (k + 1 - 1) 0 = a.getD k 0:=rfl;rw [j,b,i,show 64 - 1 - (A7.getD k 0 - 1) = 64 - A7.getD k 0 from by omega];have c:=IP (DP a k) (K7 a d k) (A7.getD k 0) f.1 (by rw [DT];exact f.2);rw [DT,hz] at c;have g:(a.getD k 0).toNat <= 1:=by
    rw [QA,List.getElem?_eq_getElem (by omega)];exact d _ (Qd (by omega))
   exact Z0 _ _ _ g c
theorem YA (a:LU) (c:a.length = 8):FI a = AI (xS a):=by
 unfold FI xS;rw [Oc];have b:(Ae a).length = 64:=by rw [B4,c]
 have:=Ij (Ae a) (Hu a) CV (by rw [b];exact PB);rw [b] at this;exact this
theorem dU (L R:LU) (c:L.length = 32) (f:R.length = 32) (a:AP L) (b:AP R):PW (AI L) (AI R) = Ar (DP (R ++ L) 64):=by
 have d:AI R * 4294967296 + AI L = AI (R ++ L):=by rw [CM,c]
 have g:(R ++ L).length = 64:=by rw [QC,c,f]
 unfold PW;rw [d,df (R ++ L) g (GJ b a) 64 (QE _)];exact UC _ (DT _ _) (K7 _ (GJ b a) _)
theorem UK (b:List Nat) (a:Nat -> LU) (l r:LU) (g:l.length = 32) (f:r.length = 32) (c:AP l) (d:AP r) (i:∀ k,k < 16 -> b.getD k 0 = AI (a k) /\ (a k).length = 48 /\ AP (a k)) :
 PW (Co b (AI l) (AI r) 16).1 (Co b (AI l) (AI r) 16).2 = Ar (DP ((BC a l r 16).2 ++ (BC a l r 16).1) 64):=by
 obtain ⟨o,m,j,n⟩:=L0 a l r g f c d 16;rw [Zw b a l r g f c d i 16 (QE _)];exact dU _ _ o m j n
theorem Vs (d:List Nat) (b:Nat -> LU) (a:LU) (j:a.length = 8) (i:∀ k,k < 16 -> d.getD k 0 = AI (b k) /\ (b k).length = 48 /\ AP (b k)) :
 Jo d a = Ar (DP ((BC b ((xS a).take 32) ((xS a).drop 32) 16).2 ++ (BC b ((xS a).take 32) ((xS a).drop 32) 16).1) 64):=by
 have c:=Nb a;have l:((xS a).take 32).length = 32:=by rw [QI,Fg];rfl
 have m:((xS a).drop 32).length = 32:=by rw [QN,Fg]
 obtain ⟨g,f⟩:=Dg (xS a) c 32;rw [Fg,show (2:Nat) ^ (64 - 32) = 4294967296 from rfl] at g f;rw [<- UK d b _ _ l m (Ee c 32) (Eg c 32) i,<- g,<- f,<- YA a j];unfold Jo
 rfl
theorem TY (key:LU) (k:Nat) (h:k < 16):(Bx key)[k]? = some (keyN key k):=by
 unfold Bx;rw [List.getElem?_map,List.getElem?_range h,Option.map_some]
theorem Xx (key:LU) (k:Nat) (h:k < 16):(Bx key).getD k 0 = keyN key k:=by
 rw [QA,TY key k h,qG]
theorem YD (key:LU) (k:Nat) (h:k < 16):(Bx key).reverse.getD k 0 = keyN key (15 - k):=by
 rw [QA,List.getElem?_reverse (by rw [ED];exact h),ED,show 16 - 1 - k = 15 - k from rfl,TY key (15 - k) (by omega),qG]
theorem UZ (key:LU) (k:Nat):BT key false k = GL key k:=by unfold BT;rw [if_neg (by decide)]
theorem XA (key:LU) (k:Nat):BT key true k = GL key (15 - k):=by unfold BT;rw [if_pos rfl]
theorem Wo (key a:LU) (c:key.length = 8) (b:a.length = 8):EE key a = desS key a false:=by
 have h:=Vs (Bx key) (BT key false) a b (fun k h=>⟨by rw [Xx key k h,UZ,Ws key c k h],Gd _ _ _,Ih _ _ _⟩);unfold EE desS;exact h
theorem bQ (key a:LU) (c:key.length = 8) (b:a.length = 8):IG key a = desS key a true:=by
 have h:=Vs (Bx key).reverse (BT key true) a b (fun k h=>⟨by rw [YD key k h,XA,Ws key c (15 - k) (by omega)],Gd _ _ _,Ih _ _ _⟩);unfold IG desS;exact h
theorem Gf (key a:LU) (b:Bool):(desS key a b).length = 8:=by
 unfold desS Ar;rw [Ck,DT]
def C4 (b a:LU) (S:Nat):List Value:=AV b S ++ AV a S
theorem EJ (b a:LU) (S:Nat):(C4 b a S).length = 34:=by simp [C4,AZ]
theorem LO (c b:LU) (S:Nat):(C4 c b S).toArray.all (·.oneCell') = true:=by
 rw [qc];intro v a;simp only [C4,List.mem_toArray,List.mem_append] at a;rcases a with a | a
 ·exact (Array.all_eq_true_iff_forall_mem.1 (G0 c S)) v (by simpa using a)
 ·exact (Array.all_eq_true_iff_forall_mem.1 (G0 b S)) v (by simpa using a)
def Fa:List Value:=Cc ++ Cc
theorem Il:Fa.length = 34:=rfl
theorem Tryz.zero204:(prog.info? 204).map (fun i=>(i.zero,i.size)) = some (some (.agg Fa.toArray),34):=by kernel_rfl
theorem YX {l:List Value} (h:l.length = 17):∃ r o k m p j n s q t a f i g d c b,l = [r,o,k,m,p,j,n,s,q,t,a,f,i,g,d,c,b]:=by
 match l,h with
 | [r,o,k,m,p,j,n,s,q,t,a,f,i,g,d,c,b],_=>exact ⟨r,o,k,m,p,j,n,s,q,t,a,f,i,g,d,c,b,rfl⟩
theorem Vv {w:World} {g t:Nat} {a cs:List Value} (h:Blk w g t a) (d:cs.length = a.length) (b:cs.toArray.all (·.oneCell') = true):(storeCells ⟨g,0,none⟩ cs 0).run prog w = .ok () (w.setRow g cs.toArray):=by
 have:=run_storeCells_from (P:=prog) g t cs 0 a.toArray w h (by rw [Qo,QZ];exact d) (fun v c=>(Array.all_eq_true_iff_forall_mem.1 b) v (by simpa using c));rw [List.take_zero,qQ] at this;exact this
theorem U0 (b a:LU) (S:Nat) {w:World} {g t:Nat} (h:Blk w g t Fa):(storeCells ⟨g,0,none⟩ (C4 b a S) 0).run prog w = .ok () (w.setRow g (C4 b a S).toArray) :=
 Vv h ((EJ _ _ _).trans Il.symm) (LO _ _ _)
theorem IC {w:World} {g t:Nat} {n o q m a d r l i f b u p j s k:UInt8} (h:Blk w g t ([n,o,q,m,a,d,r,l,i,f,b,u,p,j,s,k].map byte)):w.cell? ⟨g,0,none⟩ = some (byte n) /\ w.cell? ⟨g,1,none⟩ = some (byte o) /\ w.cell? ⟨g,2,none⟩ = some (byte q) /\ w.cell? ⟨g,3,none⟩ = some (byte m) /\ w.cell? ⟨g,4,none⟩ = some (byte a) /\ w.cell? ⟨g,5,none⟩ = some (byte d) /\ w.cell? ⟨g,6,none⟩ = some (byte r) /\ w.cell? ⟨g,7,none⟩ = some (byte l) /\ w.cell? ⟨g,8,none⟩ = some (byte i) /\ w.cell? ⟨g,9,none⟩ = some (byte f) /\ w.cell? ⟨g,10,none⟩ = some (byte b) /\ w.cell? ⟨g,11,none⟩ = some (byte u) /\ w.cell? ⟨g,12,none⟩ = some (byte p) /\ w.cell? ⟨g,13,none⟩ = some (byte j) /\ w.cell? ⟨g,14,none⟩ = some (byte s) /\ w.cell? ⟨g,15,none⟩ = some (byte k) :=
 ⟨h.c 0,h.c 1,h.c 2,h.c 3,h.c 4,h.c 5,h.c 6,h.c 7,h.c 8,h.c 9,h.c 10,h.c 11,h.c 12,h.c 13,h.c 14,h.c 15⟩
theorem Blk.setRow_other {w:World} {g g' t:Nat} {l:List Value} {cs:Array Value} (h:Blk w g t l) (a:¬ g = g'):Blk (w.setRow g' cs) g t l:=by
 unfold Blk;rw [_root_.Go.setRow_other w g' g _ a];exact h
def Ib (a:LU) (S:Nat):List Value:=AV a S ++ Cc
theorem Lz (a:LU) (S:Nat):(Ib a S).length = 34:=by unfold Ib;rw [QC,AZ,G6]
theorem Uq {a:List Value} (b:a.length = 17):List.foldl (fun (cs:Array Value) (x:Value × Nat)=>cs.setIfInBounds x.snd x.fst) #[Value.int IntKind.u64 0,Value.int IntKind.u64 0,Value.int IntKind.u64 0,Value.int IntKind.u64 0,Value.int IntKind.u64 0,Value.int IntKind.u64 0,Value.int IntKind.u64 0,Value.int IntKind.u64 0,Value.int IntKind.u64 0,Value.int IntKind.u64 0,Value.int IntKind.u64 0,Value.int IntKind.u64 0,Value.int IntKind.u64 0,Value.int IntKind.u64 0,Value.int IntKind.u64 0,Value.int IntKind.u64 0,Value.nilFunc,Value.int IntKind.u64 0,Value.int IntKind.u64 0,Value.int IntKind.u64 0,Value.int IntKind.u64 0,Value.int IntKind.u64 0,Value.int IntKind.u64 0,Value.int IntKind.u64 0,Value.int IntKind.u64 0,Value.int IntKind.u64 0,Value.int IntKind.u64 0,Value.int IntKind.u64 0,Value.int IntKind.u64 0,Value.int IntKind.u64 0,Value.int IntKind.u64 0,Value.int IntKind.u64 0,Value.int IntKind.u64 0,Value.nilFunc] a.zipIdx = (a ++ Cc).toArray:=by
 obtain ⟨s,p,m,n,q,l,o,t,r,u,c,i,k,j,g,f,d,rfl⟩:=YX b
 kernel_rfl
theorem Sn {a b:List Value} (d:a.length = 17) (c:b.length = 17):List.foldl (fun (cs:Array Value) (x:Value × Nat)=>cs.setIfInBounds (17 + x.snd) x.fst) (a ++ Cc).toArray b.zipIdx = (a ++ b).toArray:=by
 obtain ⟨D,N,z,L,B,T,M,G,R,I,k,p,t,l,g,f,s,rfl⟩:=YX d;obtain ⟨y,O,E,F,J,H,v,A,C,u,n,r,q,m,i,j,o,rfl⟩:=YX c
 kernel_rfl
theorem XH (a:LU) (S:Nat):List.foldl (fun (cs:Array Value) (x:Value × Nat)=>cs.setIfInBounds x.snd x.fst) #[Value.int IntKind.u64 0,Value.int IntKind.u64 0,Value.int IntKind.u64 0,Value.int IntKind.u64 0,Value.int IntKind.u64 0,Value.int IntKind.u64 0,Value.int IntKind.u64 0,Value.int IntKind.u64 0,Value.int IntKind.u64 0,Value.int IntKind.u64 0,Value.int IntKind.u64 0,Value.int IntKind.u64 0,Value.int IntKind.u64 0,Value.int IntKind.u64 0,Value.int IntKind.u64 0,Value.int IntKind.u64 0,Value.nilFunc,Value.int IntKind.u64 0,Value.int IntKind.u64 0,Value.int IntKind.u64 0,Value.int IntKind.u64 0,Value.int IntKind.u64 0,Value.int IntKind.u64 0,Value.int IntKind.u64 0,Value.int IntKind.u64 0,Value.int IntKind.u64 0,Value.int IntKind.u64 0,Value.int IntKind.u64 0,Value.int IntKind.u64 0,Value.int IntKind.u64 0,Value.int IntKind.u64 0,Value.int IntKind.u64 0,Value.int IntKind.u64 0,Value.nilFunc] (AV a S).zipIdx = (Ib a S).toArray:=Uq (AZ _ _)
theorem VR (b a:LU) (S:Nat):List.foldl (fun (cs:Array Value) (x:Value × Nat)=>cs.setIfInBounds (17 + x.snd) x.fst) (Ib b S).toArray (AV a S).zipIdx = (C4 b a S).toArray:=Sn (AZ _ _) (AZ _ _)
theorem SZ (g d l b f i k j q o r t p s u m:UInt8) (w:World) :
 Calls prog 105 #[.agg #[byte g,byte d,byte l,byte b,byte f,byte i,byte k,byte j,byte q,byte o,byte r,byte t,byte p,byte s,byte u,byte m]] w fun e w' =>
  ∃ S,e = .returned (.agg (C4 [g,d,l,b,f,i,k,j] [q,o,r,t,p,s,u,m] S).toArray) /\ w.heap.size <= S /\ Blk w' S 291 mergedCells /\ Bl w w':=by
 have hz:=(QO Tryz.zero204).1;obtain ⟨W,A⟩:=uX ((w.alloc (.cells #[byte g,byte d,byte l,byte b,byte f,byte i,byte k,byte j,byte q,byte o,byte r,byte t,byte p,byte s,byte u,byte m] 88)).alloc (.cells Fa.toArray 204));have J:Blk W w.heap.size 88 ([g,d,l,b,f,i,k,j,q,o,r,t,p,s,u,m].map byte):=by rw [A];exact (Blk.new w _ _).alloc _
 have L:Blk W (w.heap.size + 1) 204 Fa:=by rw [A];exact Blk.new2 w _ _ _
 have G:Bl w W:=by rw [A];exact ((Below.refl _ _).alloc (QE _) _).alloc (by simp) _
 have Y:W.heap.size = w.heap.size + 1 + 1:=by rw [A];simp
 subst A;have d2:=fun n c (wx:World)=>run_arrayAt (P:=prog) (w:=wx) 208 5 8 (some ⟨w.heap.size,n,none⟩) 8 c underlying208 (QE _);go_enter func105,ntmps105;go_wp2_with fail;refine (Rv _).mono ?_;rintro e w1 ⟨S,rfl,U,z,y⟩;have B:=J.below y J.lt;have H:=L.below y L.lt;have E:=G.trans (y.mono G.size);have d6:w.heap.size + 1 + 1 <= S:=by omega
 have hA:=AZ [g,d,l,b,f,i,k,j] S;have hB:=AZ [q,o,r,t,p,s,u,m] S;have a1:=XH [g,d,l,b,f,i,k,j] S;have a5:=VR [g,d,l,b,f,i,k,j] [q,o,r,t,p,s,u,m] S;have hh:=Lz [g,d,l,b,f,i,k,j] S;have R:=B.lt;have F:=H.lt;obtain ⟨c0,c1,c2,c3,c4,c5,c6,c7,c8,c9,a6,a4,b4,a2,b5,d3⟩:=IC B;have M:¬ w.heap.size = w.heap.size + 1:=(by omega);have b7:=EJ [g,d,l,b,f,i,k,j] [q,o,r,t,p,s,u,m] S;clear J L G Y y U hz;go_wp2_with fail;go_region_held3 (fun w'=>w'.cell? ⟨w.heap.size,0,none⟩ = some (byte g) /\ w'.cell? ⟨w.heap.size,1,none⟩ = some (byte d) /\ w'.cell? ⟨w.heap.size,2,none⟩ = some (byte l) /\ w'.cell? ⟨w.heap.size,3,none⟩ = some (byte b) /\ w'.cell? ⟨w.heap.size,4,none⟩ = some (byte f) /\ w'.cell? ⟨w.heap.size,5,none⟩ = some (byte i) /\ w'.cell? ⟨w.heap.size,6,none⟩ = some (byte k) /\ w'.cell? ⟨w.heap.size,7,none⟩ = some (byte j) /\ w'.cell? ⟨w.heap.size,8,none⟩ = some (byte q) /\ w'.cell? ⟨w.heap.size,9,none⟩ = some (byte o) /\ w'.cell? ⟨w.heap.size,10,none⟩ = some (byte r) /\ w'.cell? ⟨w.heap.size,11,none⟩ = some (byte t) /\ w'.cell? ⟨w.heap.size,12,none⟩ = some (byte p) /\ w'.cell? ⟨w.heap.size,13,none⟩ = some (byte s) /\ w'.cell? ⟨w.heap.size,14,none⟩ = some (byte u) /\ w'.cell? ⟨w.heap.size,15,none⟩ = some (byte m)) (first | exact IC I | exact IC C | exact IC (Blk.setRow_other I M) | go_keep)
  (first
  | (go_at_call 158;refine (NU [g,d,l,b,f,i,k,j] S _ rfl).mono ?_;rintro e w2 ⟨rfl,a⟩;have C:Blk w2 w.heap.size 88 ([g,d,l,b,f,i,k,j,q,o,r,t,p,s,u,m].map byte):=(by first | exact B.below a R | exact (Blk.drew1 B).below a R);have O:Blk w2 (w.heap.size + 1) 204 Fa:=(by first | exact H.below a F | exact (Blk.drew1 H).below a F);have N:Bl w w2:=(by first | exact E.trans (a.mono E.size) | exact E.trans ((NL a).mono E.size));have T:Blk w2 S 291 mergedCells:=(by first | exact z.below a z.lt | exact (Blk.drew1 z).below a z.lt);obtain ⟨p0,p1,p2,p3,p4,p5,p6,p7,p8,p9,a7,b9,a3,a9,b8,d1⟩:=IC C)
  | (go_at_call 158;refine (NU [q,o,r,t,p,s,u,m] S _ rfl).mono ?_;rintro e D ⟨rfl,x⟩;have I:Blk D w.heap.size 88 ([g,d,l,b,f,i,k,j,q,o,r,t,p,s,u,m].map byte):=C.below x C.lt;have V:Blk D (w.heap.size + 1) 204 Fa:=O.below x O.lt;have Z:Bl w D:=N.trans (x.mono N.size);have X:Blk D S 291 mergedCells:=T.below x T.lt;obtain ⟨q0,q1,q2,q3,q4,q5,q6,q7,q8,q9,d5,d0,b0,a0,b6,a8⟩:=IC I;have d4:=U0 [g,d,l,b,f,i,k,j] [q,o,r,t,p,s,u,m] S V))
 all_goals
  go_wp2_with fail;exact Qc (v:=.agg (C4 [g,d,l,b,f,i,k,j] [q,o,r,t,p,s,u,m] S).toArray) (AG results105 _ _ rfl (Blk.setRow V _) underlying204 rfl (by rw [EJ];kernel_rfl)) rfl ⟨S,rfl,by omega,Blk.setRow_other X (by omega),AN Z (by omega) _⟩
theorem TA (key:LU) (w:World) (h:key.length = 16) :
 Calls prog 105 #[.agg (key.map byte).toArray] w fun e w' =>
  ∃ S,e = .returned (.agg (C4 (key.take 8) (key.drop 8) S).toArray) /\ w.heap.size <= S /\ Blk w' S 291 mergedCells /\ Bl w w':=by
 match key,h with
 | [k0,k1,k2,k3,k4,k5,k6,k7,j0,j1,j2,j3,j4,j5,j6,j7],_=>exact SZ k0 k1 k2 k3 k4 k5 k6 k7 j0 j1 j2 j3 j4 j5 j6 j7 w
end Go.Proofs.YtbkokcjolanpeaaGreatDoor
