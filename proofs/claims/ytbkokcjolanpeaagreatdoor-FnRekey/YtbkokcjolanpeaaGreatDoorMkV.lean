import Derived.Test.YtbkokcjolanpeaaGreatDoorMkU
import Derived.Lib.OthersKept
set_option maxRecDepth 100000
set_option maxHeartbeats 20000000
namespace Go.Proofs.YtbkokcjolanpeaaGreatDoor
open Go.RowKit Go.Proofs.Tryz Act
theorem KP (b key data:LU) (am ak Y:Option Addr) (cm ck cd:Nat) (w:World) (hm:b.length <= 1048576) (a3:key.length <= ck) (a7:data.length <= cd) (hn:data.length <= 1048576) (rm:RowAt w am b) (rk:RowAt w ak key) (rd:RowAt w Y data) :
 Calls prog 36 #[.slice am b.length cm,.slice ak key.length ck,.slice Y data.length cd] w fun e w'=>∃ v,e = .returned (.agg #[.int .i64 (Dp b key data),v]) /\ Own w' w.heap.size v (macL b key data) /\ Bl w w':=by
 have hz:=(QO Tryz.zeroMc).1;obtain ⟨W,X⟩:=uX (w.alloc (.cells Fw.toArray 68));have kW:Blk W w.heap.size 68 Fw:=by rw [X];exact Blk.new w _ _
 have H:=uB X;have L:=Aa (Ss b key am ak cm ck W hm a3 (rm.below H) (rk.below H));have f:okO b key = true -> BH b key = Ao b key /\ (Ao b key).length = 16:=fun h=>Je h;have z:=Aa (fun (h:okO b key = true) (g c:Nat) (hc:16 <= c) (wx:World) (h1:RowAt wx (some ⟨g,0,none⟩) (Ao b key)) (h2:RowAt wx Y data)=>SB (Ao b key) data (some ⟨g,0,none⟩) Y c cd wx (by rw [(f h).2];omega) hn (by rw [(f h).2];exact hc) a7 h1 h2);have i:Hid (Dp b key data = (if okO b key && decide (opU b key = 2) then (if data.length <= 4096 then 0 else 6) else 1)):=rfl;have HL:Hid (macL b key data = (if okO b key && decide (opU b key = 2) then (if data.length <= 4096 then DB (Ao b key) data else []) else [])):=rfl;have u:Cy b key = 0 ↔ okO b key = true:=by
  unfold Cy okO;cases Bb b key <;> cases BZ b key <;> simp
 obtain ⟨n,a6⟩:=uX (b.length);obtain ⟨m,a1⟩:=uX (key.length);rw [<- a6,<- a1] at L ⊢;obtain ⟨C,hC⟩:=uX (Cy b key);obtain ⟨U,hU⟩:=uX (opU b key);obtain ⟨G,hG⟩:=uX (opG b key);obtain ⟨K,Z⟩:=uX (Ao b key);obtain ⟨KK,T⟩:=uX (BH b key);obtain ⟨a5,x⟩:=uX (okO b key);rw [<- hC,<- hU,<- hG,<- T] at L;rw [<- Z,<- x] at z;rw [<- T,<- Z,<- x] at f;rw [<- hU,<- x] at i HL;rw [<- Z] at HL;rw [<- hC,<- x] at u;clear a6 a1 hC hU hG Z T x rm rk hm a3;go_enter func36,ntmps36;go_wp2_with fail;rw [<- X];clear X;refine L.out.mono ?_;rintro e V ⟨v,rfl,o,t⟩;have lW:=kW.lt;have N:=kW.below t lW;have D:Bl w V:=H.trans (t.mono H.size);have J:=rd.below D
 by_cases hCz:C = 0
 ·have I:=u.1 hCz;subst hCz;rw [I] at i HL z;obtain ⟨a9,f⟩:=f I;rw [a9] at o;obtain ⟨g,c,hc,rfl,rK,bg,lg⟩:=o.at' f (by omega);have a2:RowAt V (some ⟨g,0,none⟩) K:=F7 rK;obtain ⟨W1,q⟩:=uX (V.alloc (.cells #[.int .i64 0,.int .i64 U,.int .i64 G,.slice (some ⟨g,0,none⟩) 16 c] 145));have y:=uB q;have r:=N.below y N.lt;have j:Bl w W1:=D.trans (y.mono D.size);have E:=J.below y;have F:=a2.below y;have lM:=r.lt;clear N D J o rK a2 L y kW H rd t I u
  by_cases hU2:U = 2
  ·subst hU2
   by_cases hd:data.length <= 4096
   ·have hd':¬ ((4096:Int) < (data.length:Int)):=by omega
    simp only [decide_true,Bool.and_self,if_true,if_pos hd] at i HL;have M:=Aa (z.out rfl g c hc W1 F E);rw [f] at M;clear F E z;go_wp2_with fail;rw [<- q];clear q;refine M.out.mono ?_;rintro e w4 ⟨v4,rfl,s,A⟩;have a8:=r.below A r.lt;have a0:=j.trans (A.mono j.size);obtain ⟨a4,c4,rfl,-,-⟩:=s.shape;obtain ⟨l,R⟩:=uX ((DB K data).length);rw [<- R] at s ⊢;clear r j A R M;go_wp2_with (refine store_blk rfl 68 _ _ rfl w.heap.size rfl rfl a8 (by kernel_rfl) rfl (by kernel_rfl) ?_;intro w7 p d O)
    exact ⟨rfl,_,AG results36 _ _ rfl p underlying68 rfl (by kernel_rfl),⟨_,by rw [i.out],by rw [HL.out];exact MZ (s.grown d (LD s lM)) (qz lM),a0.grown d a0.size (by intro k B;cases B;exact QE _)⟩⟩
   ·have hd':(4096:Int) < (data.length:Int):=by omega
    simp only [decide_true,Bool.and_self,if_true,if_neg hd] at i HL;rw [q] at r j;clear q E F z;go_wp2_with (refine store_blk rfl 68 _ _ rfl w.heap.size rfl rfl r (by kernel_rfl) rfl (by kernel_rfl) ?_;intro w7 p d O)
    exact ⟨rfl,_,AG results36 _ _ rfl p underlying68 rfl (by kernel_rfl),⟨_,by rw [i.out],by rw [HL.out];exact ET _ _,j.grown d j.size (by intro k B;cases B;exact QE _)⟩⟩
  ·have b2:(U != 2) = true:=by rw [qm];exact hU2
   rw [QT hU2,Bool.and_false] at i HL;simp only [Bool.false_eq_true,if_false] at i HL;rw [q] at r j;clear q E F z hU2;go_wp2_with (refine store_blk rfl 68 _ _ rfl w.heap.size rfl rfl r (by kernel_rfl) rfl (by kernel_rfl) ?_;intro w7 p d O)
   exact ⟨rfl,_,AG results36 _ _ rfl p underlying68 rfl (by kernel_rfl),⟨_,by rw [i.out],by rw [HL.out];exact ET _ _,j.grown d j.size (by intro k B;cases B;exact QE _)⟩⟩
 ·have b0:(C != 0) = true:=by rw [qm];exact hCz
  have I:a5 = false:=by
   cases hq:a5 with
   | false=>rfl
   | true=>exact absurd (u.2 hq) hCz
  rw [I,qJ] at i HL;simp only [Bool.false_eq_true,if_false] at i HL;obtain ⟨a,c,rfl,-,-⟩:=o.shape;obtain ⟨l,R⟩:=uX (KK.length);rw [<- R];have r:=N.alloc (.cells #[.int .i64 C,.int .i64 U,.int .i64 G,.slice a l c] 145);have j:Bl w (V.alloc (.cells #[.int .i64 C,.int .i64 U,.int .i64 G,.slice a l c] 145)):=D.alloc D.size _;clear o t kW H N D J rd R hCz u z f L;go_wp2_with (refine store_blk rfl 68 _ _ rfl w.heap.size rfl rfl r (by kernel_rfl) rfl (by kernel_rfl) ?_;intro w7 p d O)
  exact ⟨rfl,_,AG results36 _ _ rfl p underlying68 rfl (by kernel_rfl),⟨_,by rw [i.out],by rw [HL.out];exact ET _ _,j.grown d j.size (by intro k B;cases B;exact QE _)⟩⟩
def dig (b:UInt8):Bool:=decide (48 <= b.toNat) && decide (b.toNat <= 57)
def Bu (s:ByteArray):Bool:=s.data.toList.all dig
theorem bK {s:ByteArray} (h:Bu s = true) (k:Nat) (a:k < s.size):dig s[k] = true:=by
 unfold Bu at h;rw [Qt] at h;exact h _ (by show s.data[k] ∈ s.data.toList;simp)
theorem P0 {s:ByteArray} (h:∀ k (a:k < s.size),dig s[k] = true):Bu s = true:=by
 unfold Bu;rw [Qt];intro b c;obtain ⟨k,a,rfl⟩:=qi c;exact h k a
theorem LH {s:ByteArray} (k:Nat) (a:k < s.size) (h:dig s[k] = false):Bu s = false:=by
 cases hd:Bu s
 ·rfl
 ·rw [bK hd k a] at h;cases h
theorem FF {b:UInt8} (h:dig b = true):48 <= b.toNat /\ b.toNat <= 57:=by simpa [dig] using h
theorem TZ (b:UInt8):(decide (48 <= (b.toNat:Int)) && decide ((b.toNat:Int) <= 57)) = dig b:=by
 unfold dig;rw [decide_eq_decide.2 (show (48 <= (b.toNat:Int)) ↔ 48 <= b.toNat from by omega),decide_eq_decide.2 (show ((b.toNat:Int) <= 57) ↔ b.toNat <= 57 from by omega)]
theorem Iw (r:Int) (w:World) :
 Calls prog 153 #[.int .i32 r] w fun e w'=>e = .returned (.bool (decide (48 <= r) && decide (r <= 57))) /\ w' = w:=by
 by_cases h:48 <= r
 ·go_enter func153,ntmps153;go_wp2;go_ret;exact ⟨by simp [h],rfl⟩
 ·go_enter func153,ntmps153;go_wp2;go_ret;exact ⟨by rw [show decide (48 <= r) = false from by simp;omega];rfl,rfl⟩
theorem FL (s:ByteArray) (w:World) :
 Calls prog 99 #[.string s] w fun e w'=>e = .returned (.bool (Bu s)) /\ Bl w w':=by
 go_enter func99,ntmps99;go_wp2_with fail
 go_loopw [] (fun wr=>∃ a:Nat,a <= s.size /\ wr.heap[w.heap.size]? = some (.stringIter s a) /\ Hid (∀ j (i:j < s.size),j < a -> dig s[j] = true) /\ Bl w wr) (fun wr=>s.size - wr.iterPos w.heap.size)
 case atStart =>
  refine ⟨0,QU _,by simpa using World.iter_heap w s 0,fun j _ h=>absurd h (Qj j),(Below.refl _ w).alloc (QE _) _⟩
 case round =>
  obtain ⟨a,q,d,o,f⟩:=hrel
  by_cases hp:a < s.size
  ·by_cases ha:s[a].toNat < 128
   ·have n:∀ b,(Instr.next (.pointer (some ⟨w.heap.size,0,none⟩)) true b).run prog wr = _:=fun b=>Lib.run_next_ascii_at wr w.heap.size s a b d hp ha;have g:=Lib.iterAt_heap wr w.heap.size s a (a + 1) d;have c:=Lib.below_iterAt f (k:=w.heap.size) (QE _) s (a + 1);cases hd:dig s[a]
    ·go_wp2_with (go_at_call 153;refine (Iw _ _).mono ?_;rintro e l ⟨rfl,m⟩;subst l;rw [TZ,hd])
     go_ret;exact ⟨by rw [LH a hp hd];rfl,c⟩
    ·go_wp2_with (go_at_call 153;refine (Iw _ _).mono ?_;rintro e l ⟨rfl,m⟩;subst l;rw [TZ,hd])
     go_roundw
     case rel =>
      refine ⟨a + 1,by omega,g,?_,c⟩;show ∀ j (i:j < s.size),j < a + 1 -> dig s[j] = true;intro j i t
      by_cases hjk2:j = a
      ·subst hjk2;exact hd
      ·exact o.out j i (by omega)
     case measure =>
      simp only [World.iterPos,g,d];omega
   ·have r:=(decode_high s a hp (by omega)).1;have n:∀ b,(Instr.next (.pointer (some ⟨w.heap.size,0,none⟩)) true b).run prog wr = _:=fun b=>Lib.run_next_any_at wr w.heap.size s a b d hp;have c:=Lib.below_iterAt f (k:=w.heap.size) (QE _) s (a + (Utf8.decode s a).2);have p:(decide (48 <= ((Utf8.decode s a).1:Int)) && decide (((Utf8.decode s a).1:Int) <= 57)) = false:=by
     rw [QT (show ¬ ((Utf8.decode s a).1:Int) <= 57 from by omega),Bool.and_false]
    go_wp2_with (go_at_call 153;refine (Iw _ _).mono ?_;rintro e l ⟨rfl,m⟩;subst l;rw [p])
    go_ret;exact ⟨by rw [LH a hp (by simp [dig];omega)];rfl,c⟩
  ·have n:∀ b,(Instr.next (.pointer (some ⟨w.heap.size,0,none⟩)) true b).run prog wr = _:=fun b=>Lib.run_next_end_at wr w.heap.size s a b d hp;go_wp2_with fail;go_ret;exact ⟨by rw [P0 (fun j i=>o.out j i (by omega))];rfl,f⟩
theorem BR (w:World) (o:Obj):Bl w (w.alloc o):=(Below.refl _ w).alloc (QE _) o
def tabCellsI:List Value:=[.int .i64 2,.iface 179 (.agg #[.int .i64 2,.int .i64 13,.int .i64 19]),.int .i64 3,.iface 182 (.agg #[.int .i64 6]),.int .i64 4,.iface 182 (.agg #[.int .i64 12]),.int .i64 7,.iface 182 (.agg #[.int .i64 10]),.int .i64 11,.iface 182 (.agg #[.int .i64 6]),.int .i64 37,.iface 185 (.agg #[.int .i64 12]),.int .i64 39,.iface 185 (.agg #[.int .i64 2]),.int .i64 41,.iface 185 (.agg #[.int .i64 8]),.int .i64 48,.iface 188 (.agg #[.int .i64 3,.int .i64 0,.int .i64 200]),.int .i64 52,.iface 190 (.agg #[.int .i64 8]),.int .i64 53,.iface 190 (.agg #[.int .i64 10]),.int .i64 64,.iface 190 (.agg #[.int .i64 8]),.int .i64 70,.iface 182 (.agg #[.int .i64 3]),.int .i64 128,.iface 190 (.agg #[.int .i64 8])]
theorem G7 (d l m:Int) (w:World):(Go.method 509 179 (.agg #[.int .i64 d,.int .i64 l,.int .i64 m]) "loop.example/s01728/impl.extent").run prog w = .ok (290,.agg #[.int .i64 d,.int .i64 l,.int .i64 m]) w:=by kernel_rfl
theorem ID (d l m:Int) (w:World):(Go.method 509 188 (.agg #[.int .i64 d,.int .i64 l,.int .i64 m]) "loop.example/s01728/impl.extent").run prog w = .ok (290,.agg #[.int .i64 d,.int .i64 l,.int .i64 m]) w:=by kernel_rfl
theorem Ie (n:Int) (w:World):(Go.method 509 182 (.agg #[.int .i64 n]) "loop.example/s01728/impl.extent").run prog w = .ok (292,.int .i64 n) w:=by kernel_rfl
theorem J6 (n:Int) (w:World):(Go.method 509 185 (.agg #[.int .i64 n]) "loop.example/s01728/impl.extent").run prog w = .ok (292,.int .i64 n) w:=by kernel_rfl
theorem I3 (n:Int) (w:World):(Go.method 509 190 (.agg #[.int .i64 n]) "loop.example/s01728/impl.extent").run prog w = .ok (292,.int .i64 n) w:=by kernel_rfl
theorem LL (d l m:Int) (w:World):(Go.method 509 179 (.agg #[.int .i64 d,.int .i64 l,.int .i64 m]) "loop.example/s01728/impl.allows").run prog w = .ok (291,.agg #[]) w:=by kernel_rfl
theorem Ly (d l m:Int) (w:World):(Go.method 509 188 (.agg #[.int .i64 d,.int .i64 l,.int .i64 m]) "loop.example/s01728/impl.allows").run prog w = .ok (294,.agg #[]) w:=by kernel_rfl
theorem NA (n:Int) (w:World):(Go.method 509 182 (.agg #[.int .i64 n]) "loop.example/s01728/impl.allows").run prog w = .ok (291,.agg #[]) w:=by kernel_rfl
theorem O1 (n:Int) (w:World):(Go.method 509 185 (.agg #[.int .i64 n]) "loop.example/s01728/impl.allows").run prog w = .ok (293,.agg #[]) w:=by kernel_rfl
theorem Ny (n:Int) (w:World):(Go.method 509 190 (.agg #[.int .i64 n]) "loop.example/s01728/impl.allows").run prog w = .ok (294,.agg #[]) w:=by kernel_rfl
theorem EB (n:Int) (w:World):Calls prog 292 #[.int .i64 n] w fun e w'=>e = .returned (.agg #[.int .i64 0,.int .i64 n,.int .i64 n]) /\ Bl w w':=by
 go_enter func292,ntmps292;go_wp2;exact Qc (v:=.agg [.int .i64 0,.int .i64 n,.int .i64 n].toArray) (AG results292 _ _ rfl (show Blk _ _ 193 [.int .i64 0,.int .i64 n,.int .i64 n] from Blk.new w _ #[.int .i64 0,.int .i64 n,.int .i64 n]) underlying193 rfl (by kernel_rfl)) rfl ⟨rfl,BR _ _⟩
theorem E6 (d l m:Int) (w:World):Calls prog 290 #[.agg #[.int .i64 d,.int .i64 l,.int .i64 m]] w fun e w'=>e = .returned (.agg #[.int .i64 d,.int .i64 l,.int .i64 m]) /\ Bl w w':=by
 go_enter func290,ntmps290;go_wp2;exact Qc (v:=.agg [.int .i64 d,.int .i64 l,.int .i64 m].toArray) (AG results290 _ _ rfl (show Blk _ _ 193 [.int .i64 d,.int .i64 l,.int .i64 m] from Blk.new2 w _ _ #[.int .i64 d,.int .i64 l,.int .i64 m]) underlying193 rfl (by kernel_rfl)) rfl ⟨rfl,((Below.refl _ w).alloc (QE _) _).alloc (by simp) _⟩
theorem Pu (b:UInt8) (w:World):Calls prog 291 #[.agg #[],.int .u8 (b.toNat:Int)] w fun e w'=>e = .returned (.bool (decide (48 <= b.toNat /\ b.toNat <= 57))) /\ Bl w w':=by
 have c:=QW b;obtain ⟨x,a⟩:=uX (b.toNat);rw [<- a] at c ⊢;clear a;have d:IntKind.i32.wrap (x:Int) = (x:Int):=by rw [IntKind.wrap_i32];omega
 by_cases h1:48 <= x
 ·have g1:(48:Int) <= (x:Int):=by omega
  by_cases h2:x <= 57
  ·have g2:(x:Int) <= 57:=by omega
   rw [QK ⟨h1,h2⟩];go_enter func291,ntmps291;go_wp2;go_ret;exact ⟨rfl,BR _ _⟩
  ·have g2:¬ ((x:Int) <= 57):=by omega
   rw [QT (fun h=>h2 h.2)];go_enter func291,ntmps291;go_wp2;go_ret;exact ⟨by simp,BR _ _⟩
 ·have g1:¬ ((48:Int) <= (x:Int)):=by omega
  rw [QT (fun h=>h1 h.1)];go_enter func291,ntmps291;go_wp2;go_ret;exact ⟨rfl,BR _ _⟩
theorem UN (b:UInt8) (w:World):Calls prog 293 #[.agg #[],.int .u8 (b.toNat:Int)] w fun e w'=>e = .returned (.bool (decide (32 <= b.toNat /\ b.toNat <= 126))) /\ Bl w w':=by
 obtain ⟨x,a⟩:=uX (b.toNat);rw [<- a];clear a
 by_cases h1:32 <= x
 ·have g1:(32:Int) <= (x:Int):=by omega
  by_cases h2:x <= 126
  ·have g2:(x:Int) <= 126:=by omega
   rw [QK ⟨h1,h2⟩];go_enter func293,ntmps293;go_wp2;go_ret;exact ⟨rfl,BR _ _⟩
  ·have g2:¬ ((x:Int) <= 126):=by omega
   rw [QT (fun h=>h2 h.2)];go_enter func293,ntmps293;go_wp2;go_ret;exact ⟨by simp,BR _ _⟩
 ·have g1:¬ ((32:Int) <= (x:Int)):=by omega
  rw [QT (fun h=>h1 h.1)];go_enter func293,ntmps293;go_wp2;go_ret;exact ⟨rfl,BR _ _⟩
theorem SC (b:UInt8) (w:World):Calls prog 294 #[.agg #[],.int .u8 (b.toNat:Int)] w fun e w'=>e = .returned (.bool true) /\ Bl w w':=by
 go_enter func294,ntmps294;go_wp2;go_ret;exact ⟨rfl,BR _ _⟩
end Go.Proofs.YtbkokcjolanpeaaGreatDoor
