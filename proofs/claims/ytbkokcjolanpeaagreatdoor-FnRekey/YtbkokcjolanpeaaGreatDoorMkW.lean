import Derived.Test.YtbkokcjolanpeaaGreatDoorMkV
import Derived.Shelf.Strconv.Atoi
import Derived.Lib.ConvBytes
import Derived.Shelf.Bytes.SlClone
import Derived.OwnWalk
set_option maxRecDepth 100000
set_option maxHeartbeats 20000000
namespace Go.Proofs.YtbkokcjolanpeaaGreatDoor
open Go.RowKit Go.Proofs.Tryz Act
theorem Br {p:Prop} (h:p):Hid p:=h
def BL (b:UInt8):Bool:=decide (48 <= b.toNat /\ b.toNat <= 57)
def DN (b:UInt8):Bool:=decide (32 <= b.toNat /\ b.toNat <= 126)
def Ba (_:UInt8):Bool:=true
theorem Px (b:UInt8) (w:World):Calls prog 294 #[.agg #[],.int .u8 (b.toNat:Int)] w fun e w'=>e = .returned (.bool (Ba b)) /\ Bl w w':=SC b w
theorem XK (b:UInt8) (w:World):Calls prog 293 #[.agg #[],.int .u8 (b.toNat:Int)] w fun e w'=>e = .returned (.bool (DN b)) /\ Bl w w':=UN b w
theorem P8 (b:UInt8) (w:World):Calls prog 291 #[.agg #[],.int .u8 (b.toNat:Int)] w fun e w'=>e = .returned (.bool (BL b)) /\ Bl w w':=Pu b w
theorem Fi (d l m N:Nat) (w:World):Calls prog 102 #[.agg #[.int .i64 (d:Int),.int .i64 (l:Int),.int .i64 (m:Int)],.int .i64 (N:Int)] w fun e w'=>e = .returned (.bool (decide (l <= N /\ N <= m))) /\ Bl w w':=by
 by_cases h1:l <= N
 ·have g1:(l:Int) <= (N:Int):=by omega
  by_cases h2:N <= m
  ·have g2:(N:Int) <= (m:Int):=by omega
   rw [QK ⟨h1,h2⟩];go_enter func102,ntmps102;go_wp2;go_ret;exact ⟨by simp,BR _ _⟩
  ·have g2:¬ ((N:Int) <= (m:Int)):=by omega
   rw [QT (fun h=>h2 h.2)];go_enter func102,ntmps102;go_wp2;go_ret;exact ⟨by simp,BR _ _⟩
 ·have g1:¬ ((l:Int) <= (N:Int)):=by omega
  rw [QT (fun h=>h1 h.1)];go_enter func102,ntmps102;go_wp2;go_ret;exact ⟨by simp,BR _ _⟩
def Ag (l m:Nat) (a:UInt8 -> Bool) (data:LU):Bool:=decide (l <= data.length /\ data.length <= m) && data.all a
theorem De (a:UInt8 -> Bool) (data:LU) (k:Nat) (b:k < data.length) (h:(data.take k).all a = true):(data.take (k + 1)).all a = a (data.getD k 0):=by
 rw [Qu b,List.all_append,h,Qp];simp [b]
theorem D5 (a:UInt8 -> Bool) (data:LU) (k:Nat) (b:k < data.length) (h:a (data.getD k 0) = false):data.all a = false:=by
 rw [List.all_eq_false];exact ⟨data[k],Qd b,by simpa [b] using h⟩
theorem Ks (d l m:Nat) (data:LU) (B:Option Addr) (C:Nat) (w:World) (G:data.length <= 1048576) (u:RowAt w B data) :
 Calls prog 53 #[.iface 179 (.agg #[.int .i64 (d:Int),.int .i64 (l:Int),.int .i64 (m:Int)]),.slice B data.length C] w fun e w'=>e = .returned (.bool (Ag l m BL data)) /\ Bl w w':=by
 have mE:=G7 (d:Int) (l:Int) (m:Int);have U:=LL (d:Int) (l:Int) (m:Int);have HE:=Br (fun (q:World)=>E6 (d:Int) (l:Int) (m:Int) q);have I:=Br (fun (b:UInt8) (q:World)=>P8 b q);obtain ⟨N,j⟩:=uX (data.length);have r:=Br j;have R:N <= 1048576:=by rw [j];exact G
 have HS:=Br (fun (q:World)=>Fi d l m N q);rw [<- j]
 by_cases h1:l <= N /\ N <= m
 ·have HF:Hid (Ag l m BL data = data.all BL):=by
   show _ = _;unfold Ag;rw [<- j,QK h1,Qp]
  rw [QK h1] at HS;clear j h1;go_enter func53,ntmps53;go_wp2_with (first | (go_at_call 290;refine (HE.out _).mono ?_;rintro e M ⟨rfl,p⟩) | (go_at_call 102;refine (HS.out _).mono ?_;rintro e D ⟨rfl,s⟩))
  have J:Bl w D:=p.trans (s.mono p.size);clear p s
  go_loopw [15] (fun i wr=>∃ k:Nat,k <= N /\ i = .int .i64 (k:Int) /\ (data.take k).all BL = true /\ Bl w wr) (fun i _=>N - (intOf i).toNat)
  case atStart=>exact ⟨0,QU _,rfl,rfl,J⟩
  case round =>
   obtain ⟨k,T,rfl,g,c⟩:=hrel
   by_cases hlt:k < N
   ·have v:(k:Int) < (N:Int):=by omega
    obtain ⟨b,o,rfl,E⟩:=(u.below c).at (k:=k) (by rw [<- r.out];exact hlt);have O:=E k (by rw [<- r.out];exact hlt);have f:=De BL data k (by rw [<- r.out];exact hlt) g;have a:=D5 BL data k (by rw [<- r.out];exact hlt);have n:=Br (I.out (data.getD k 0));obtain ⟨y,z⟩:=uX ((data.getD k 0).toNat);rw [<- z] at O n;obtain ⟨F,t⟩:=uX (BL (data.getD k 0));rw [<- t] at n f a;clear z t E g u
    cases F with
    | true =>
      clear a;go_wp2_with (go_at_call 291;refine (n.out _).mono ?_;rintro e H ⟨rfl,x⟩)
      go_roundw
      case rel=>exact ⟨k + 1,by omega,by go_num,f,c.trans (x.mono c.size)⟩
      case measure=>simp [intOf];omega
    | false =>
      have L:=a rfl;clear a f;go_wp2_with (go_at_call 291;refine (n.out _).mono ?_;rintro e H ⟨rfl,x⟩)
      go_ret;exact ⟨by rw [HF.out,L];rfl,c.trans (x.mono c.size)⟩
   ·have v:¬ ((k:Int) < (N:Int)):=by omega
    have A:data.all BL = true:=by
     rw [QS (by rw [<- r.out];omega)] at g;exact g
    go_wp2_with fail;go_ret;exact ⟨by rw [HF.out,A];rfl,c⟩
 ·have HF:Hid (Ag l m BL data = false):=by
   show _ = _;unfold Ag;rw [<- j,QT h1,qJ]
  rw [QT h1] at HS;clear j h1 u;go_enter func53,ntmps53;go_wp2_with (first | (go_at_call 290;refine (HE.out _).mono ?_;rintro e M ⟨rfl,p⟩) | (go_at_call 102;refine (HS.out _).mono ?_;rintro e D ⟨rfl,s⟩))
  go_ret;exact ⟨by rw [HF.out];rfl,p.trans (s.mono p.size)⟩
theorem LM (d l m:Nat) (data:LU) (B:Option Addr) (C:Nat) (w:World) (G:data.length <= 1048576) (u:RowAt w B data) :
 Calls prog 53 #[.iface 188 (.agg #[.int .i64 (d:Int),.int .i64 (l:Int),.int .i64 (m:Int)]),.slice B data.length C] w fun e w'=>e = .returned (.bool (Ag l m Ba data)) /\ Bl w w':=by
 have mE:=ID (d:Int) (l:Int) (m:Int);have U:=Ly (d:Int) (l:Int) (m:Int);have HE:=Br (fun (q:World)=>E6 (d:Int) (l:Int) (m:Int) q);have I:=Br (fun (b:UInt8) (q:World)=>Px b q);obtain ⟨N,j⟩:=uX (data.length);have r:=Br j;have R:N <= 1048576:=by rw [j];exact G
 have HS:=Br (fun (q:World)=>Fi d l m N q);rw [<- j]
 by_cases h1:l <= N /\ N <= m
 ·have HF:Hid (Ag l m Ba data = data.all Ba):=by
   show _ = _;unfold Ag;rw [<- j,QK h1,Qp]
  rw [QK h1] at HS;clear j h1;go_enter func53,ntmps53;go_wp2_with (first | (go_at_call 290;refine (HE.out _).mono ?_;rintro e M ⟨rfl,p⟩) | (go_at_call 102;refine (HS.out _).mono ?_;rintro e D ⟨rfl,s⟩))
  have J:Bl w D:=p.trans (s.mono p.size);clear p s
  go_loopw [15] (fun i wr=>∃ k:Nat,k <= N /\ i = .int .i64 (k:Int) /\ (data.take k).all Ba = true /\ Bl w wr) (fun i _=>N - (intOf i).toNat)
  case atStart=>exact ⟨0,QU _,rfl,rfl,J⟩
  case round =>
   obtain ⟨k,T,rfl,g,c⟩:=hrel
   by_cases hlt:k < N
   ·have v:(k:Int) < (N:Int):=by omega
    obtain ⟨b,o,rfl,E⟩:=(u.below c).at (k:=k) (by rw [<- r.out];exact hlt);have O:=E k (by rw [<- r.out];exact hlt);have f:=De Ba data k (by rw [<- r.out];exact hlt) g;have a:=D5 Ba data k (by rw [<- r.out];exact hlt);have n:=Br (I.out (data.getD k 0));obtain ⟨y,z⟩:=uX ((data.getD k 0).toNat);rw [<- z] at O n;obtain ⟨F,t⟩:=uX (Ba (data.getD k 0));rw [<- t] at n f a;clear z t E g u
    cases F with
    | true =>
      clear a;go_wp2_with (go_at_call 294;refine (n.out _).mono ?_;rintro e H ⟨rfl,x⟩)
      go_roundw
      case rel=>exact ⟨k + 1,by omega,by go_num,f,c.trans (x.mono c.size)⟩
      case measure=>simp [intOf];omega
    | false =>
      have L:=a rfl;clear a f;go_wp2_with (go_at_call 294;refine (n.out _).mono ?_;rintro e H ⟨rfl,x⟩)
      go_ret;exact ⟨by rw [HF.out,L];rfl,c.trans (x.mono c.size)⟩
   ·have v:¬ ((k:Int) < (N:Int)):=by omega
    have A:data.all Ba = true:=by
     rw [QS (by rw [<- r.out];omega)] at g;exact g
    go_wp2_with fail;go_ret;exact ⟨by rw [HF.out,A];rfl,c⟩
 ·have HF:Hid (Ag l m Ba data = false):=by
   show _ = _;unfold Ag;rw [<- j,QT h1,qJ]
  rw [QT h1] at HS;clear j h1 u;go_enter func53,ntmps53;go_wp2_with (first | (go_at_call 290;refine (HE.out _).mono ?_;rintro e M ⟨rfl,p⟩) | (go_at_call 102;refine (HS.out _).mono ?_;rintro e D ⟨rfl,s⟩))
  go_ret;exact ⟨by rw [HF.out];rfl,p.trans (s.mono p.size)⟩
theorem L1 (n:Nat) (data:LU) (z:Option Addr) (A:Nat) (w:World) (E:data.length <= 1048576) (s:RowAt w z data) :
 Calls prog 53 #[.iface 182 (.agg #[.int .i64 (n:Int)]),.slice z data.length A] w fun e w'=>e = .returned (.bool (Ag n n BL data)) /\ Bl w w':=by
 have mE:=Ie (n:Int);have R:=NA (n:Int);have HE:=Br (fun (m:World)=>EB (n:Int) m);have G:=Br (fun (b:UInt8) (m:World)=>P8 b m);obtain ⟨N,g⟩:=uX (data.length);have p:=Br g;have M:N <= 1048576:=by rw [g];exact E
 have HS:=Br (fun (m:World)=>Fi 0 n n N m);rw [<- g]
 by_cases h1:n <= N /\ N <= n
 ·have HF:Hid (Ag n n BL data = data.all BL):=by
   show _ = _;unfold Ag;rw [<- g,QK h1,Qp]
  rw [QK h1] at HS;clear g h1;go_enter func53,ntmps53;go_wp2_with (first | (go_at_call 292;refine (HE.out _).mono ?_;rintro e J ⟨rfl,l⟩) | (go_at_call 102;refine (HS.out _).mono ?_;rintro e B ⟨rfl,q⟩))
  have H:Bl w B:=l.trans (q.mono l.size);clear l q
  go_loopw [15] (fun i wr=>∃ k:Nat,k <= N /\ i = .int .i64 (k:Int) /\ (data.take k).all BL = true /\ Bl w wr) (fun i _=>N - (intOf i).toNat)
  case atStart=>exact ⟨0,QU _,rfl,rfl,H⟩
  case round =>
   obtain ⟨k,O,rfl,f,c⟩:=hrel
   by_cases hlt:k < N
   ·have t:(k:Int) < (N:Int):=by omega
    obtain ⟨b,o,rfl,C⟩:=(s.below c).at (k:=k) (by rw [<- p.out];exact hlt);have L:=C k (by rw [<- p.out];exact hlt);have d:=De BL data k (by rw [<- p.out];exact hlt) f;have a:=D5 BL data k (by rw [<- p.out];exact hlt);have j:=Br (G.out (data.getD k 0));obtain ⟨y,v⟩:=uX ((data.getD k 0).toNat);rw [<- v] at L j;obtain ⟨D,r⟩:=uX (BL (data.getD k 0));rw [<- r] at j d a;clear v r C f s
    cases D with
    | true =>
      clear a;go_wp2_with (go_at_call 291;refine (j.out _).mono ?_;rintro e F ⟨rfl,u⟩)
      go_roundw
      case rel=>exact ⟨k + 1,by omega,by go_num,d,c.trans (u.mono c.size)⟩
      case measure=>simp [intOf];omega
    | false =>
      have I:=a rfl;clear a d;go_wp2_with (go_at_call 291;refine (j.out _).mono ?_;rintro e F ⟨rfl,u⟩)
      go_ret;exact ⟨by rw [HF.out,I];rfl,c.trans (u.mono c.size)⟩
   ·have t:¬ ((k:Int) < (N:Int)):=by omega
    have x:data.all BL = true:=by
     rw [QS (by rw [<- p.out];omega)] at f;exact f
    go_wp2_with fail;go_ret;exact ⟨by rw [HF.out,x];rfl,c⟩
 ·have HF:Hid (Ag n n BL data = false):=by
   show _ = _;unfold Ag;rw [<- g,QT h1,qJ]
  rw [QT h1] at HS;clear g h1 s;go_enter func53,ntmps53;go_wp2_with (first | (go_at_call 292;refine (HE.out _).mono ?_;rintro e J ⟨rfl,l⟩) | (go_at_call 102;refine (HS.out _).mono ?_;rintro e B ⟨rfl,q⟩))
  go_ret;exact ⟨by rw [HF.out];rfl,l.trans (q.mono l.size)⟩
theorem Nz (n:Nat) (data:LU) (z:Option Addr) (A:Nat) (w:World) (E:data.length <= 1048576) (s:RowAt w z data) :
 Calls prog 53 #[.iface 185 (.agg #[.int .i64 (n:Int)]),.slice z data.length A] w fun e w'=>e = .returned (.bool (Ag n n DN data)) /\ Bl w w':=by
 have mE:=J6 (n:Int);have R:=O1 (n:Int);have HE:=Br (fun (m:World)=>EB (n:Int) m);have G:=Br (fun (b:UInt8) (m:World)=>XK b m);obtain ⟨N,g⟩:=uX (data.length);have p:=Br g;have M:N <= 1048576:=by rw [g];exact E
 have HS:=Br (fun (m:World)=>Fi 0 n n N m);rw [<- g]
 by_cases h1:n <= N /\ N <= n
 ·have HF:Hid (Ag n n DN data = data.all DN):=by
   show _ = _;unfold Ag;rw [<- g,QK h1,Qp]
  rw [QK h1] at HS;clear g h1;go_enter func53,ntmps53;go_wp2_with (first | (go_at_call 292;refine (HE.out _).mono ?_;rintro e J ⟨rfl,l⟩) | (go_at_call 102;refine (HS.out _).mono ?_;rintro e B ⟨rfl,q⟩))
  have H:Bl w B:=l.trans (q.mono l.size);clear l q
  go_loopw [15] (fun i wr=>∃ k:Nat,k <= N /\ i = .int .i64 (k:Int) /\ (data.take k).all DN = true /\ Bl w wr) (fun i _=>N - (intOf i).toNat)
  case atStart=>exact ⟨0,QU _,rfl,rfl,H⟩
  case round =>
   obtain ⟨k,O,rfl,f,c⟩:=hrel
   by_cases hlt:k < N
   ·have t:(k:Int) < (N:Int):=by omega
    obtain ⟨b,o,rfl,C⟩:=(s.below c).at (k:=k) (by rw [<- p.out];exact hlt);have L:=C k (by rw [<- p.out];exact hlt);have d:=De DN data k (by rw [<- p.out];exact hlt) f;have a:=D5 DN data k (by rw [<- p.out];exact hlt);have j:=Br (G.out (data.getD k 0));obtain ⟨y,v⟩:=uX ((data.getD k 0).toNat);rw [<- v] at L j;obtain ⟨D,r⟩:=uX (DN (data.getD k 0));rw [<- r] at j d a;clear v r C f s
    cases D with
    | true =>
      clear a;go_wp2_with (go_at_call 293;refine (j.out _).mono ?_;rintro e F ⟨rfl,u⟩)
      go_roundw
      case rel=>exact ⟨k + 1,by omega,by go_num,d,c.trans (u.mono c.size)⟩
      case measure=>simp [intOf];omega
    | false =>
      have I:=a rfl;clear a d;go_wp2_with (go_at_call 293;refine (j.out _).mono ?_;rintro e F ⟨rfl,u⟩)
      go_ret;exact ⟨by rw [HF.out,I];rfl,c.trans (u.mono c.size)⟩
   ·have t:¬ ((k:Int) < (N:Int)):=by omega
    have x:data.all DN = true:=by
     rw [QS (by rw [<- p.out];omega)] at f;exact f
    go_wp2_with fail;go_ret;exact ⟨by rw [HF.out,x];rfl,c⟩
 ·have HF:Hid (Ag n n DN data = false):=by
   show _ = _;unfold Ag;rw [<- g,QT h1,qJ]
  rw [QT h1] at HS;clear g h1 s;go_enter func53,ntmps53;go_wp2_with (first | (go_at_call 292;refine (HE.out _).mono ?_;rintro e J ⟨rfl,l⟩) | (go_at_call 102;refine (HS.out _).mono ?_;rintro e B ⟨rfl,q⟩))
  go_ret;exact ⟨by rw [HF.out];rfl,l.trans (q.mono l.size)⟩
theorem M6 (n:Nat) (data:LU) (z:Option Addr) (A:Nat) (w:World) (E:data.length <= 1048576) (s:RowAt w z data) :
 Calls prog 53 #[.iface 190 (.agg #[.int .i64 (n:Int)]),.slice z data.length A] w fun e w'=>e = .returned (.bool (Ag n n Ba data)) /\ Bl w w':=by
 have mE:=I3 (n:Int);have R:=Ny (n:Int);have HE:=Br (fun (m:World)=>EB (n:Int) m);have G:=Br (fun (b:UInt8) (m:World)=>Px b m);obtain ⟨N,g⟩:=uX (data.length);have p:=Br g;have M:N <= 1048576:=by rw [g];exact E
 have HS:=Br (fun (m:World)=>Fi 0 n n N m);rw [<- g]
 by_cases h1:n <= N /\ N <= n
 ·have HF:Hid (Ag n n Ba data = data.all Ba):=by
   show _ = _;unfold Ag;rw [<- g,QK h1,Qp]
  rw [QK h1] at HS;clear g h1;go_enter func53,ntmps53;go_wp2_with (first | (go_at_call 292;refine (HE.out _).mono ?_;rintro e J ⟨rfl,l⟩) | (go_at_call 102;refine (HS.out _).mono ?_;rintro e B ⟨rfl,q⟩))
  have H:Bl w B:=l.trans (q.mono l.size);clear l q
  go_loopw [15] (fun i wr=>∃ k:Nat,k <= N /\ i = .int .i64 (k:Int) /\ (data.take k).all Ba = true /\ Bl w wr) (fun i _=>N - (intOf i).toNat)
  case atStart=>exact ⟨0,QU _,rfl,rfl,H⟩
  case round =>
   obtain ⟨k,O,rfl,f,c⟩:=hrel
   by_cases hlt:k < N
   ·have t:(k:Int) < (N:Int):=by omega
    obtain ⟨b,o,rfl,C⟩:=(s.below c).at (k:=k) (by rw [<- p.out];exact hlt);have L:=C k (by rw [<- p.out];exact hlt);have d:=De Ba data k (by rw [<- p.out];exact hlt) f;have a:=D5 Ba data k (by rw [<- p.out];exact hlt);have j:=Br (G.out (data.getD k 0));obtain ⟨y,v⟩:=uX ((data.getD k 0).toNat);rw [<- v] at L j;obtain ⟨D,r⟩:=uX (Ba (data.getD k 0));rw [<- r] at j d a;clear v r C f s
    cases D with
    | true =>
      clear a;go_wp2_with (go_at_call 294;refine (j.out _).mono ?_;rintro e F ⟨rfl,u⟩)
      go_roundw
      case rel=>exact ⟨k + 1,by omega,by go_num,d,c.trans (u.mono c.size)⟩
      case measure=>simp [intOf];omega
    | false =>
      have I:=a rfl;clear a d;go_wp2_with (go_at_call 294;refine (j.out _).mono ?_;rintro e F ⟨rfl,u⟩)
      go_ret;exact ⟨by rw [HF.out,I];rfl,c.trans (u.mono c.size)⟩
   ·have t:¬ ((k:Int) < (N:Int)):=by omega
    have x:data.all Ba = true:=by
     rw [QS (by rw [<- p.out];omega)] at f;exact f
    go_wp2_with fail;go_ret;exact ⟨by rw [HF.out,x];rfl,c⟩
 ·have HF:Hid (Ag n n Ba data = false):=by
   show _ = _;unfold Ag;rw [<- g,QT h1,qJ]
  rw [QT h1] at HS;clear g h1 s;go_enter func53,ntmps53;go_wp2_with (first | (go_at_call 292;refine (HE.out _).mono ?_;rintro e J ⟨rfl,l⟩) | (go_at_call 102;refine (HS.out _).mono ?_;rintro e B ⟨rfl,q⟩))
  go_ret;exact ⟨by rw [HF.out];rfl,l.trans (q.mono l.size)⟩
end Go.Proofs.YtbkokcjolanpeaaGreatDoor
namespace Go.Proofs
open Go.Shelf
def Tryz.lays172_ren:Go.Shelf.Ren:=⟨fun | 172=>182 | 244=>215 | 245=>216 | 247=>230 | 279=>231 | 280=>232 | 281=>233 | 282=>234 | 287=>256 | 316=>257 | 171=>154 | 205=>258 | 321=>268 | 322=>269 | 243=>183 | 246=>217 | 283=>235 | 284=>236 | 285=>237 | 286=>238 | 129=>260 | 317=>259 | 318=>261 | 319=>262 | 320=>263 | 337=>270 | 338=>271 | n=>n,fun | 9=>9 | 3=>3 | 75=>75 | 76=>282 | 4=>4 | 5=>5 | 167=>343 | 37=>22 | 0=>0 | 85=>344 | 2=>2 | 168=>346 | 53=>198 | 175=>363 | 46=>103 | 210=>367 | 127=>318 | 145=>378 | 143=>376 | 21=>21 | 171=>349 | 173=>352 | 212=>370 | 51=>246 | 20=>20 | 213=>371 | 232=>356 | 233=>294 | 80=>289 | n=>n,fun | 15=>3 | 16=>4 | 17=>5 | 18=>8 | 19=>9 | n=>n⟩
theorem Tryz.lays172:Go.Proofs.Lays.n172 Tryz.prog Tryz.lays172_ren:={
 mixed:=by kernel_rfl
 f129:=Tryz.func260.trans (congrArg some (by kernel_rfl))
 f171:=Tryz.func154.trans (congrArg some (by kernel_rfl))
 f172:=Tryz.func182.trans (congrArg some (by kernel_rfl))
 f205:=Tryz.func258.trans (congrArg some (by kernel_rfl))
 f243:=Tryz.func183.trans (congrArg some (by kernel_rfl))
 f244:=Tryz.func215.trans (congrArg some (by kernel_rfl))
 f245:=Tryz.func216.trans (congrArg some (by kernel_rfl))
 f246:=Tryz.func217.trans (congrArg some (by kernel_rfl))
 f247:=Tryz.func230.trans (congrArg some (by kernel_rfl))
 f279:=Tryz.func231.trans (congrArg some (by kernel_rfl))
 f280:=Tryz.func232.trans (congrArg some (by kernel_rfl))
 f281:=Tryz.func233.trans (congrArg some (by kernel_rfl))
 f282:=Tryz.func234.trans (congrArg some (by kernel_rfl))
 f283:=Tryz.func235.trans (congrArg some (by kernel_rfl))
 f284:=Tryz.func236.trans (congrArg some (by kernel_rfl))
 f285:=Tryz.func237.trans (congrArg some (by kernel_rfl))
 f286:=Tryz.func238.trans (congrArg some (by kernel_rfl))
 f287:=Tryz.func256.trans (congrArg some (by kernel_rfl))
 f316:=Tryz.func257.trans (congrArg some (by kernel_rfl))
 f317:=Tryz.func259.trans (congrArg some (by kernel_rfl))
 f318:=Tryz.func261.trans (congrArg some (by kernel_rfl))
 f319:=Tryz.func262.trans (congrArg some (by kernel_rfl))
 f320:=Tryz.func263.trans (congrArg some (by kernel_rfl))
 f321:=Tryz.func268.trans (congrArg some (by kernel_rfl))
 f322:=Tryz.func269.trans (congrArg some (by kernel_rfl))
 f337:=Tryz.func270.trans (congrArg some (by kernel_rfl))
 f338:=Tryz.func271.trans (congrArg some (by kernel_rfl))
 t0:=Tryz.underlying0
 a0:=Tryz.isAgg0
 z0:=Tryz.sizeOf0
 v0:=Tryz.zeroValue0
 t2:=Tryz.underlying2
 a2:=Tryz.isAgg2
 z2:=Tryz.sizeOf2
 v2:=Tryz.zeroValue2
 t3:=Tryz.underlying3
 a3:=Tryz.isAgg3
 z3:=Tryz.sizeOf3
 v3:=Tryz.zeroValue3
 t4:=Tryz.underlying4
 a4:=Tryz.isAgg4
 z4:=Tryz.sizeOf4
 v4:=Tryz.zeroValue4
 t5:=Tryz.underlying5
 a5:=Tryz.isAgg5
 z5:=Tryz.sizeOf5
 v5:=Tryz.zeroValue5
 t9:=Tryz.underlying9
 a9:=Tryz.isAgg9
 z9:=Tryz.sizeOf9
 v9:=Tryz.zeroValue9
 t20:=Tryz.underlying20
 a20:=Tryz.isAgg20
 z20:=Tryz.sizeOf20
 v20:=Tryz.zeroValue20
 t21:=Tryz.underlying21
 a21:=Tryz.isAgg21
 z21:=Tryz.sizeOf21
 v21:=Tryz.zeroValue21
 t37:=Tryz.underlying22
 a37:=Tryz.isAgg22
 z37:=Tryz.sizeOf22
 v37:=Tryz.zeroValue22
 t46:=Tryz.underlying103
 a46:=Tryz.isAgg103
 z46:=Tryz.sizeOf103
 v46:=Tryz.zeroValue103
 t51:=Tryz.underlying246
 a51:=Tryz.isAgg246
 z51:=Tryz.sizeOf246
 v51:=Tryz.zeroValue246
 t53:=Tryz.underlying198
 a53:=Tryz.isAgg198
 z53:=Tryz.sizeOf198
 v53:=Tryz.zeroValue198
 t75:=Tryz.underlying75
 a75:=Tryz.isAgg75
 z75:=Tryz.sizeOf75
 v75:=Tryz.zeroValue75
 t76:=Tryz.underlying282
 a76:=Tryz.isAgg282
 z76:=Tryz.sizeOf282
 v76:=Tryz.zeroValue282
 t85:=Tryz.underlying344
 a85:=Tryz.isAgg344
 z85:=Tryz.sizeOf344
 v85:=Tryz.zeroValue344
 t127:=Tryz.underlying318
 a127:=Tryz.isAgg318
 z127:=Tryz.sizeOf318
 v127:=Tryz.zeroValue318
 t143:=Tryz.underlying376
 a143:=Tryz.isAgg376
 z143:=Tryz.sizeOf376
 v143:=Tryz.zeroValue376
 t145:=Tryz.underlying378
 a145:=Tryz.isAgg378
 z145:=Tryz.sizeOf378
 v145:=Tryz.zeroValue378
 t167:=Tryz.underlying343
 a167:=Tryz.isAgg343
 z167:=Tryz.sizeOf343
 v167:=Tryz.zeroValue343
 t168:=Tryz.underlying346
 a168:=Tryz.isAgg346
 z168:=Tryz.sizeOf346
 v168:=Tryz.zeroValue346
 t171:=Tryz.underlying349
 a171:=Tryz.isAgg349
 z171:=Tryz.sizeOf349
 v171:=Tryz.zeroValue349
 t173:=Tryz.underlying352
 a173:=Tryz.isAgg352
 z173:=Tryz.sizeOf352
 v173:=Tryz.zeroValue352
 t175:=Tryz.underlying363
 a175:=Tryz.isAgg363
 z175:=Tryz.sizeOf363
 v175:=Tryz.zeroValue363
 t210:=Tryz.underlying367
 a210:=Tryz.isAgg367
 z210:=Tryz.sizeOf367
 v210:=Tryz.zeroValue367
 t212:=Tryz.underlying370
 a212:=Tryz.isAgg370
 z212:=Tryz.sizeOf370
 v212:=Tryz.zeroValue370
 t213:=Tryz.underlying371
 a213:=Tryz.isAgg371
 z213:=Tryz.sizeOf371
 t232:=Tryz.underlying356
 a232:=Tryz.isAgg356
 z232:=Tryz.sizeOf356
 v232:=Tryz.zeroValue356
 t233:=Tryz.underlying294
 a233:=Tryz.isAgg294
 z233:=Tryz.sizeOf294
 v233:=Tryz.zeroValue294
 g15:=by kernel_rfl
 g16:=by kernel_rfl
 g17:=by kernel_rfl
 g18:=by kernel_rfl
 g19:=by kernel_rfl }
open Go.RowKit in
theorem Tryz.strconv_Atoi (s:ByteArray) (n:Int) (a:s.size <= 18) (h:Lib.atoi s.data.toList = some n) (w:World) :
 Calls Tryz.prog 182 #[.string s] w fun e w'=>e = .returned (.tuple #[.int .i64 n,.nilIface]) /\ ∃ t,w' = Lib.bytesWorld w 5 t:=Any.strconv_Atoi Tryz.lays172 s n a h w
end Go.Proofs
namespace Go.Proofs.YtbkokcjolanpeaaGreatDoor
open Go.RowKit Go.Proofs.Tryz Act
theorem Pi (w:World) (e:TypeId) (s:ByteArray):Bl w (Lib.bytesWorld w e s):=⟨rfl,rfl,rfl,by rw [Lib.bytesWorld_size];omega,fun k a=>Lib.bytesWorld_at_old w _ s k a⟩
def numL (l:LU):Nat:=l.foldl (fun n c=>n * 10 + (c.toNat - 48)) 0
theorem SM (l:LU):∀ (a:Nat),l.all dig = true -> Lib.decFrom a l = some (l.foldl (fun n c=>n * 10 + (c.toNat - 48)) a):=by
 induction l with
 | nil=>intro a _;rfl
 | cons b r ih =>
   intro a h;rw [List.all_cons,Qm] at h;have f:=FF h.1;show (match Lib.digitVal b with | some d=>Lib.decFrom (a * 10 + d) r | none=>none) = _;rw [show Lib.digitVal b = some (b.toNat - 48) from by unfold Lib.digitVal;rw [if_pos f]];exact ih _ h.2
theorem Yy (l:LU) (h:l.all dig = true) (c:0 < l.length):Lib.atoi l = some (numL l:Int):=by
 cases l with
 | nil=>simp at c
 | cons b r =>
   have a:=FF (by rw [List.all_cons,Qm] at h;exact h.1);have n1:(b == 45) = false:=by rw [QP];rintro rfl;simp at a
   have n2:(b == 43) = false:=by rw [QP];rintro rfl;simp at a
   show (if (b == 45) = true then (Lib.decNat r).map (fun (m:Nat)=>-(m:Int)) else if (b == 43) = true then (Lib.decNat r).map (fun (m:Nat)=>(m:Int)) else (Lib.decNat (b :: r)).map (fun (m:Nat)=>(m:Int))) = _;rw [n1,n2];simp only [Bool.false_eq_true,if_false];unfold Lib.decNat;rw [if_neg (by simp),SM _ _ h]
   rfl
theorem IU (n:Nat) (s:ByteArray) (w:World) :
 Calls prog 150 #[.agg #[.int .i64 0,.int .i64 (n:Int),.int .i64 (n:Int)],.string s] w fun e w'=>e = .returned (.tuple #[.int .i64 (n:Int),.bool true]) /\ Bl w w':=by
 go_enter func150,ntmps150;go_wp2;go_ret2;exact ⟨rfl,(Below.refl _ w).alloc (QE _) _⟩
theorem Nm (d l m:Nat) (s:ByteArray) (w:World) (G:0 < d) (v:s.size <= 18) (C:0 < s.size) :
 Calls prog 150 #[.agg #[.int .i64 (d:Int),.int .i64 (l:Int),.int .i64 (m:Int)],.string s] w fun e w'=>e = .returned (.tuple #[.int .i64 (if Bu s then (numL s.data.toList:Int) else 0),.bool (Bu s && decide (l <= numL s.data.toList /\ numL s.data.toList <= m))]) /\ Bl w w':=by
 have D:¬ (d:Int) = 0:=by omega
 have f:=(Below.refl w.heap.size w).alloc (QE _) (Obj.cells #[.int .i64 (d:Int),.int .i64 (l:Int),.int .i64 (m:Int)] 193);cases hg:Bu s
 ·have b:=Br (fun (a:World)=>FL s a);rw [hg] at b;clear hg;go_enter func150,ntmps150;go_wp2_with (go_at_call 99;refine (b.out _).mono ?_;rintro e w2 ⟨rfl,i⟩)
  go_ret2;exact ⟨rfl,f.trans (i.mono f.size)⟩
 ·have b:=Br (fun (a:World)=>FL s a);have q:=Br (fun (a:World)=>Tryz.strconv_Atoi s (numL s.data.toList:Int) v (Yy _ hg C) a);rw [hg] at b;clear hg;obtain ⟨N,z⟩:=uX (numL s.data.toList);rw [<- z] at q ⊢;clear z;have HS:=Br (fun (a:World)=>Fi d l m N a);obtain ⟨W,n⟩:=uX (w.alloc (Obj.cells #[.int .i64 (d:Int),.int .i64 (l:Int),.int .i64 (m:Int)] 193));have g:Blk W w.heap.size 193 [.int .i64 (d:Int),.int .i64 (l:Int),.int .i64 (m:Int)]:=by rw [n];exact Blk.new _ _ _
  rw [<- n] at f;have x:=Br n;clear n;go_enter func150,ntmps150;go_upto_region 1 with fail
  rw [<- show W = _ from x];have y:=g.c 0;have r:=g.c 1;go_wp2_with fail;refine (b.out _).mono ?_;rintro e w2 ⟨rfl,i⟩;go_wp2_with fail;refine (q.out _).mono ?_;rintro e B ⟨rfl,t,o⟩;have u:Bl w2 B:=by rw [o];exact Pi _ _ _
  have k:=i.trans (u.mono i.size);have j:=g.below k g.lt;have p:=f.trans (k.mono f.size);clear o i u k g x f b q y r;have y:=j.c 0;have r:=j.c 1;have E:=j.c 2;go_wp2_with fail;refine (HS.out _).mono ?_;rintro e F ⟨rfl,A⟩;go_wp2_with fail;go_ret2;exact ⟨rfl,p.trans (A.mono p.size)⟩
theorem AA {p:Prop} (h:p):Hid p:=h
def tabNos:List Nat:=[2,3,4,7,11,37,39,41,48,52,53,64,70,128]
def IB (k:Nat):Value:=(tabCellsI.getD (k * 2 + 1) (.int .i64 0))
theorem NX (k:Nat) (a:k < 14):tabCellsI[k * 2]? = some (.int .i64 (tabNos.getD k 0:Nat)) /\ tabCellsI[k * 2 + 1]? = some (IB k):=by
 match k,a with
 | 0,_=>exact ⟨rfl,rfl⟩
 | 1,_=>exact ⟨rfl,rfl⟩
 | 2,_=>exact ⟨rfl,rfl⟩
 | 3,_=>exact ⟨rfl,rfl⟩
 | 4,_=>exact ⟨rfl,rfl⟩
 | 5,_=>exact ⟨rfl,rfl⟩
 | 6,_=>exact ⟨rfl,rfl⟩
 | 7,_=>exact ⟨rfl,rfl⟩
 | 8,_=>exact ⟨rfl,rfl⟩
 | 9,_=>exact ⟨rfl,rfl⟩
 | 10,_=>exact ⟨rfl,rfl⟩
 | 11,_=>exact ⟨rfl,rfl⟩
 | 12,_=>exact ⟨rfl,rfl⟩
 | 13,_=>exact ⟨rfl,rfl⟩
def EQ (a:Nat):Int:=if a ∈ tabNos then (tabNos.idxOf a:Int) else -1
theorem UY (a k:Nat) (b:k < 14) (h:tabNos.getD k 0 = a):EQ a = (k:Int):=by
 subst h
 match k,b with
 | 0,_ | 1,_ | 2,_ | 3,_ | 4,_ | 5,_ | 6,_ | 7,_ | 8,_ | 9,_ | 10,_ | 11,_ | 12,_ | 13,_=>decide
theorem R9 (b:Nat) (h:∀ k,k < 14 -> tabNos.getD k 0 ≠ b):EQ b = -1:=by
 have a:b ∉ tabNos:=by
  intro a;obtain ⟨k,c,e⟩:=qi a;exact h k c (by rw [QA,List.getElem?_eq_getElem c];exact e)
 unfold EQ;rw [if_neg a]
theorem Ua (b g d:Nat) (w:World) (r:Blk w g 118 tabCellsI) (n:w.cell? ⟨d,0,none⟩ = some (.int .i64 (b:Int))) :
 Calls prog 100 #[.slice (some ⟨g,0,none⟩) 14 14,.func (Fn.func 101) #[] #[.pointer (some ⟨d,0,none⟩)]] w fun e w'=>e = .returned (.int .i64 (EQ b)) /\ Bl w w':=by
 have H:Hid (∀ {x:World},Bl w x -> ∀ k,k < 14 -> x.cell? ⟨g,k * 2,none⟩ = some (.int .i64 (tabNos.getD k 0:Nat)) /\ x.cell? ⟨g,k * 2 + 1,none⟩ = some (IB k)):=by
  intro x o k t;have e:=NX k t;have u:=r.below o r.lt;have v:k * 2 < tabCellsI.length:=by show k * 2 < 28;omega
  have y:k * 2 + 1 < tabCellsI.length:=by show k * 2 + 1 < 28;omega
  rw [List.getElem?_eq_getElem v,List.getElem?_eq_getElem y] at e;exact ⟨(u.cell _ v).trans e.1,(u.cell _ y).trans e.2⟩
 have B:=QF w _ n;have F:Hid (∀ {x:World},Bl w x -> x.cell? ⟨d,0,none⟩ = some (.int .i64 (b:Int))):=fun o=>(o.cell (p:=⟨d,0,none⟩) B).trans n;clear r n;go_enter func100,ntmps100;go_wp2_with fail
 go_loopw [8] (fun i wr=>∃ k:Nat,k <= 14 /\ i = .int .i64 k /\ Hid (∀ j,j < k -> tabNos.getD j 0 ≠ b) /\ Bl w wr) (fun i _=>14 - (intOf i).toNat)
 case atStart=>exact ⟨0,QU _,rfl,fun j h=>absurd h (Qj j),Below.refl _ _⟩
 case round =>
  obtain ⟨k,t,rfl,z,a⟩:=hrel
  by_cases l:k < 14
  ·obtain ⟨C,A⟩:=H.out a k l;have hlt':(k:Int) < 14:=by omega
   obtain ⟨m,q⟩:=uX (tabNos.getD k 0);obtain ⟨G,f⟩:=uX (IB k);rw [<- q] at C;rw [<- f] at A;have c:=a.alloc a.size (Obj.cells #[.int .i64 (m:Int),G] 118);have I:=F.out c;have s:=AA q;clear f q
   by_cases D:m = b
   ·subst D;go_wp2;go_ret;exact ⟨by rw [UY m k l s.out.symm];rfl,c⟩
   ·have he':¬ (m:Int) = (b:Int):=by omega
    go_wp2;go_roundw
    case rel=>exact ⟨k + 1,by omega,by go_num,fun j E=>by
     by_cases hjk:j = k
     ·rw [hjk,<- s.out];exact D
     ·exact z.out j (by omega),c⟩
    case measure=>simp [intOf];omega
  ·have hlt':¬ (k:Int) < 14:=by omega
   go_wp2;go_ret;exact ⟨by rw [R9 b (fun j E=>z.out j (by omega))];rfl,a⟩
theorem Mq (a g:Nat) (w:World) (d:Blk w g 118 tabCellsI) :
 Calls prog 52 #[.slice (some ⟨g,0,none⟩) 14 14,.int .i64 (a:Int)] w fun e w'=>e = .returned (.int .i64 (EQ a)) /\ Bl w w':=by
 have b:=(Below.refl w.heap.size w).alloc (QE _) (Obj.cells #[.int .i64 (a:Int)] 3);have f:=AA (Ua a g w.heap.size (w.alloc (Obj.cells #[.int .i64 (a:Int)] 3)) (d.below b d.lt) ((Blk.new w 3 #[.int .i64 (a:Int)]).c 0));clear d;go_enter func52,ntmps52;go_wp2_with (go_at_call 100;refine f.out.mono ?_;rintro e w2 ⟨rfl,i⟩)
 go_ret;exact ⟨rfl,b.trans (i.mono b.size)⟩
end Go.Proofs.YtbkokcjolanpeaaGreatDoor
namespace Go.Proofs
open Go.Shelf
def Tryz.laysSlK4_ren:Go.Shelf.Ren:=⟨fun | 4=>151 | n=>n,fun | 22=>22 | 4=>4 | 5=>5 | n=>n,fun | n=>n⟩
theorem Tryz.laysSlK4:Go.Proofs.SlLaysK.n4 Tryz.prog Tryz.laysSlK4_ren:={
 mixed:=by kernel_rfl
 f4:=Tryz.func151.trans (congrArg some (by kernel_rfl))
 t4:=Tryz.underlying4
 a4:=Tryz.isAgg4
 z4:=Tryz.sizeOf4
 v4:=Tryz.zeroValue4
 t22:=Tryz.underlying22
 a22:=Tryz.isAgg22
 z22:=Tryz.sizeOf22
 v22:=Tryz.zeroValue22
 t5:=Tryz.underlying5
 i5:=by kernel_rfl }
open Go.RowKit Go.Lib in
theorem Tryz.bytes_Clone_at (a:Addr) (n c:Nat) (b:List Int) (w:World) (j:b.length = n) (d:n <= 140737488355328) (g:∀ i,i < n -> w.cell? (a.add i) = some (.int .u8 (b.getD i 0))) :
 Calls Tryz.prog 151 #[.slice (some a) n c] w fun e w'=>∃ f,e = .returned f /\ w'.ownsRow w.heap.size 5 1 f n (b.map (Value.int .u8)) /\ f ≠ .slice none 0 0 /\ Below w.heap.size w w':=Any.bytes_Clone_at Tryz.laysSlK4 a n c b w j d g
end Go.Proofs
namespace Go.Proofs.YtbkokcjolanpeaaGreatDoor
open Go.RowKit Go.Proofs.Tryz Act
theorem Js {w:World} {d:Option Addr} {bs:LU} (h:RowAt w d bs) (f:0 < bs.length):∃ b a,d = some ⟨b,a,none⟩ /\ w.rangeAt b a (bs.map byte):=by
 obtain ⟨b,a,rfl,g⟩:=h.at f;refine ⟨b,a,rfl,?_⟩;intro j v k;obtain ⟨c,i⟩:=List.getElem?_eq_some_iff.1 k;rw [QD] at c;rw [g j c,<- i];simp [byte,c]
theorem Er (A:LU) (f:Option Addr) (n c:Nat) (w:World) (g:A.length = n) (h:RowAt w f A):(convert 22 9 (.slice f n c)).run prog w = .ok (.string ⟨A.toArray⟩) w:=by
 by_cases h0:A = []
 ·subst h0;subst g
  cases f with
  | none=>exact OP 0 c w rfl
  | some x =>
    rw [run_convert_bytes_string w 22 9 5 _ _ _ underlying22 underlying5 underlying9];exact run_bytesToString w x 0 c [] (by have a:=run_loadCells_list (P:=prog) w x [] (by intro j u h;simp at h);exact a)
 ·rw [<- Ra];obtain ⟨b,d,rfl,i⟩:=Js h (by have:=List.length_pos_iff.2 h0;omega);rw [run_convert_bytes_string w 22 9 5 _ _ _ underlying22 underlying5 underlying9];refine run_bytesToString w ⟨b,d,none⟩ n c (A.map fun b=>(b.toNat:Int)) ?_;have a:=run_loadCells_list (P:=prog) w ⟨b,d,none⟩ (A.map byte) (by intro j u k;rw [qZ];exact i j u k);rw [QD,g] at a;rw [a,JA]
  rfl
theorem Own.monoI {w:World} {B base:Nat} {v:Value} {l:LU} (h:Own w base v l) (j:B <= base):Own w B v l:=by
 obtain ⟨t,d,a⟩:=h;refine ⟨t,d,?_⟩;rcases a with a | ⟨g,b,c,f,i,rest⟩
 ·exact .inl a
 ·exact .inr ⟨g,b,c,f,by omega,rest⟩
theorem BJ (w:World) (base:Nat):Own w base (.slice none 0 0) []:=⟨5,Qa _ _ _ _⟩
theorem Oj (l:LU) (a:Addr) (c:Nat) (w:World) (p:l.length <= 1048576) (k:RowAt w (some a) l) :
 Calls prog 151 #[.slice (some a) l.length c] w fun e w'=>∃ v,e = .returned v /\ Own w' w.heap.size v l /\ Bl w w':=by
 refine (Tryz.bytes_Clone_at a l.length c (l.map fun b=>(b.toNat:Int)) w (by simp) (by omega) (fun i d=>?_)).mono ?_
 ·obtain ⟨b,o,e,m⟩:=k.at d;cases e
  have h:=m i d;rw [qZ];have j:(l.map fun b=>(b.toNat:Int)).getD i 0 = ((l.getD i 0).toNat:Int):=by simp [d]
  rw [j];exact h
 ·rintro e w' ⟨v,rfl,g,-,f⟩;refine ⟨v,rfl,⟨5,?_⟩,f⟩;have n:(l.map fun b=>(b.toNat:Int)).map (Value.int .u8) = l.map byte:=by rw [JA];rfl
  rw [<- n];exact g
def fC (d l m:Nat) (b:UInt8 -> Bool) (a:LU -> Nat) (c:LU -> Bool) (rest:LU):Nat :=
 if rest.length < d then 1 else if c (rest.take d) = false then 4 else if rest.length < d + a (rest.take d) then 1 else if Ag l m b ((rest.drop d).take (a (rest.take d))) = true then 0 else 4
def fD (d l m:Nat) (b:UInt8 -> Bool) (a:LU -> Nat) (c:LU -> Bool) (rest:LU):LU :=
 if fC d l m b a c rest = 0 then (rest.drop d).take (a (rest.take d)) else []
def fE (d l m:Nat) (b:UInt8 -> Bool) (a:LU -> Nat) (c:LU -> Bool) (rest:LU):Nat :=
 if fC d l m b a c rest = 0 then d + a (rest.take d) else 0
structure Kd (T:Nat) (x r:Value) (FE d l m:Nat) (ok:UInt8 -> Bool) (sz:LU -> Nat) (sd:LU -> Bool):Prop where
 mE:∀ w:World,(Go.method 509 T x "loop.example/s01728/impl.extent").run prog w = .ok (FE,r) w
 cF:∀ w:World,(callFunc FE #[r]).run prog w = .ok (.enter FE #[r]) w
 HE:∀ w:World,Calls prog FE #[r] w fun e w'=>e = .returned (.agg #[.int .i64 (d:Int),.int .i64 (l:Int),.int .i64 (m:Int)]) /\ Bl w w'
 HF:∀ (data:LU) (ao:Option Addr) (cap:Nat) (w:World),data.length <= 1048576 -> RowAt w ao data -> Calls prog 53 #[.iface T x,.slice ao data.length cap] w fun e w'=>e = .returned (.bool (Ag l m ok data)) /\ Bl w w'
 HS:∀ (s:LU) (w:World),s.length = d -> Calls prog 150 #[.agg #[.int .i64 (d:Int),.int .i64 (l:Int),.int .i64 (m:Int)],.string ⟨s.toArray⟩] w fun e w'=>e = .returned (.tuple #[.int .i64 (sz s:Int),.bool (sd s)]) /\ Bl w w'
 d3:d <= 3
 z:∀ s,s.length = d -> sz s <= 1000
theorem Ov {T:Nat} {x r:Value} {FE d l m:Nat} {n:UInt8 -> Bool} {j:LU -> Nat} {p:LU -> Bool} (K:Kd T x r FE d l m n j p) (rest:LU) (b o u:Nat) (w:World) (hn:rest.length <= 4096) (c3:rest.length <= u) (hr:RowAt w (some ⟨b,o,none⟩) rest) :
 Calls prog 94 #[.iface T x,.slice (some ⟨b,o,none⟩) rest.length u] w fun e w'=>∃ v,e = .returned (.tuple #[v,.int .i64 (fE d l m n j p rest:Nat),.int .i64 (fC d l m n j p rest:Nat)]) /\ Own w' w.heap.size v (fD d l m n j p rest) /\ Bl w w':=by
 have mE:=K.mE;have cF:=K.cF;have HE:=AA K.HE;have d4:=K.d3;obtain ⟨N,hN⟩:=uX (rest.length);have HN:=AA hN
 by_cases h1:N < d
 ·have ec:fC d l m n j p rest = 1:=by unfold fC;rw [if_pos (by omega)]
  have ed:fD d l m n j p rest = []:=by unfold fD;rw [ec];rfl
  have ee:fE d l m n j p rest = 0:=by unfold fE;rw [ec];rfl
  have d5:(N:Int) < (d:Int):=by omega
  rw [ec,ed,ee];rw [<- hN];clear hN hr ec ed ee;go_enter func94,ntmps94;go_wp2_with (refine (HE.out _).mono ?_;rintro e U ⟨rfl,b1⟩)
  go_ret3;exact ⟨_,rfl,BJ _ _,b1.alloc b1.size _⟩
 have d6:¬ ((N:Int) < (d:Int)):=by omega
 have c6:(d:Int) <= (u:Int):=by omega
 have c5:(0:Int) <= (d:Int):=by omega
 have a4:(rest.take d).length = d:=by rw [QI];omega
 have a5:=AA (fun (X:World) (h:RowAt X (some ⟨b,o,none⟩) rest)=>Er (rest.take d) (some ⟨b,o,none⟩) d u X a4 (RowAt.take h d));have a1:=AA (fun (X:World)=>K.HS (rest.take d) X a4);have c1:=K.z (rest.take d) a4;have a7:=AA K.HF;obtain ⟨HS,b5⟩:∃ t:ByteArray,t = ⟨(rest.take d).toArray⟩:=⟨_,rfl⟩;rw [<- b5] at a1 a5;have k:Hid (fC d l m n j p rest = (if p (rest.take d) = false then 4 else if N < d + j (rest.take d) then 1 else if Ag l m n ((rest.drop d).take (j (rest.take d))) = true then 0 else 4) /\ fD d l m n j p rest = (if fC d l m n j p rest = 0 then (rest.drop d).take (j (rest.take d)) else []) /\ fE d l m n j p rest = (if fC d l m n j p rest = 0 then d + j (rest.take d) else 0)):=by
  refine ⟨?_,rfl,rfl⟩;show fC d l m n j p rest = _;unfold fC;rw [if_neg (by omega),<- hN]
 obtain ⟨RC,b0⟩:=uX (fC d l m n j p rest);obtain ⟨RD,a9⟩:=uX (fD d l m n j p rest);obtain ⟨RE,b4⟩:=uX (fE d l m n j p rest);rw [<- b0,<- a9,<- b4] at k ⊢;obtain ⟨z,hz⟩:=uX (j (rest.take d));obtain ⟨q,hq⟩:=uX (p (rest.take d));rw [<- hz,<- hq] at a1;rw [<- hz,<- hq] at k;rw [<- hz] at c1;rw [<- hN];have c0:IntKind.i64.wrap ((d:Int) + (z:Int)) = ((d + z:Nat):Int):=by rw [QH];omega
 obtain ⟨E,hE⟩:=uX (d + z);rw [<- hE] at c0 k;have d1:(d:Int) <= (E:Int):=by omega
 have a2:=AA hE;clear hN b5 b0 a9 b4 hz hq hE;go_enter func94,ntmps94;go_upto_region 4 with (refine (HE.out _).mono ?_;rintro e U ⟨rfl,b1⟩)
 obtain ⟨W,hW⟩:=uX (U.alloc (Obj.cells #[.int .i64 (d:Int),.int .i64 (l:Int),.int .i64 (m:Int)] 193));rw [<- hW];obtain ⟨gE,a6⟩:=uX (U.heap.size);rw [<- a6];have kE:=uK hW a6;have bW:Bl w W:=by rw [hW];exact b1.alloc b1.size _
 have rW:=hr.below bW;clear hW a6 b1 hr mE cF HE;obtain ⟨V,hV⟩:=uX (World.drew W);have Y:Bl W V:=by rw [hV];exact (Below.refl _ _).drew
 have D:Hid (∀ {x},Bl W x -> Blk x gE 193 [.int .i64 (d:Int),.int .i64 (l:Int),.int .i64 (m:Int)] /\ RowAt x (some ⟨b,o,none⟩) rest):=fun h=>⟨kE.below h kE.lt,rW.below h⟩;refine QJ (S:=fun x=>Blk x gE 193 [.int .i64 (d:Int),.int .i64 (l:Int),.int .i64 (m:Int)] /\ RowAt x (some ⟨b,o,none⟩) rest) (by kernel_rfl) (by rw [<- hV];exact D.out Y) (fun a=>?_);rw [<- hV] at a ⊢;clear hV;refine tC 0 (.agg #[.int .i64 (d:Int),.int .i64 (l:Int),.int .i64 (m:Int)]) rfl (fun U h=>by have b9:=h.1.c 0;have d2:=h.1.c 1;have c4:=h.1.c 2;go_simp) a ?_;simp only [put,pS];refine tA 1 (.slice (some ⟨b,o,none⟩) N u) a ?_;simp only [put,pS];refine tA 2 (.pointer (some ⟨gE,0,none⟩)) a ?_;simp only [put,pS];refine tC 3 (.int .i64 (d:Int)) rfl (fun U h=>by have b9:=h.1.c 0;go_simp) a ?_;simp only [put,pS];refine tA 4 (.slice (some ⟨b,o,none⟩) d u) a ?_;simp only [put,pS];refine tC 5 (.string HS) rfl (fun U h=>by have hc:=a5.out U h.2;go_simp) a ?_;simp only [put,pS];refine rdy1 6 (fun K J=>?_);go_simp;refine (a1.out _).mono ?_;rintro e b6 ⟨rfl,a0⟩;have C:=Y.trans (a0.mono (by have:=Y.size;omega));go_wp2_with fail;refine J.out _ _ (D.out C) (fun a=>?_);clear J K
 try dsimp only [put]
 refine tA 7 (.tuple #[.int .i64 (z:Int),.bool q]) a ?_;simp only [put,pS];refine tA 8 (.int .i64 (z:Int)) a ?_;simp only [put,pS];refine tA 9 (.bool q) a ?_;simp only [put,pS];refine rdy1 10 (fun K J=>?_);go_simp;refine J.out _ _ (D.out C) (fun a=>?_);clear J K
 try dsimp only [put]
 refine rdy1 11 (fun K J=>?_);go_simp;refine J.out _ _ (D.out C) (fun a=>?_);clear J K
 try dsimp only [put]
 refine QM (by kernel_rfl) ?_ _;clear a;have H:=bW.trans (C.mono bW.size);have c2:=kE.below C kE.lt;have b8:=rW.below C;have e0:=c2.c 0;clear Y C a0 kE rW bW D a5 a1;cases q
 ·rw [if_pos rfl] at k;obtain ⟨s,i,g⟩:=k.out;rw [s] at i g;rw [if_neg (by decide)] at i g;subst s i g;go_wp2_with fail;go_ret3;exact ⟨_,rfl,BJ _ _,H⟩
 rw [if_neg (by decide)] at k
 by_cases h2:N < E
 ·rw [if_pos h2] at k;obtain ⟨s,i,g⟩:=k.out;rw [s] at i g;rw [if_neg (by decide)] at i g;subst s i g;have b7:(N:Int) < (E:Int):=by omega
  go_wp2_with fail;go_ret3;exact ⟨_,rfl,BJ _ _,H⟩
 rw [if_neg h2] at k;have b7:¬ (N:Int) < (E:Int):=by omega
 have c9:N <= u:=by have:=HN.out;omega
 have c8:(E:Int) <= (u:Int):=by omega
 have c7:(0:Int) <= (E:Int):=by omega
 have f:((rest.drop d).take z).length = E - d:=by
  have e1:=HN.out;have e2:=a2.out;rw [QI,QN];omega
 have d0:E <= 4096:=by have:=HN.out;omega
 obtain ⟨A,I⟩:=uX ((rest.drop d).take z);have Z:=AA (fun (ao:Option Addr) (c:Nat) (X:World) (q1:RowAt X ao A)=>a7.out A ao c X (by rw [I,f];omega) q1)
 by_cases hcd:u = d
 ·have a8:A = []:=by
   have e1:=HN.out;have e2:=a2.out;apply List.length_eq_zero_iff.1;rw [I,f];omega
  rw [<- I] at k;rw [<- I] at f;have B:=AA (Oj A ⟨b,o,none⟩ 0 b6 (by rw [a8];simp) (by rw [a8];exact .inl rfl));rw [f] at B;clear I a7 a2 a8;go_wp2_with fail;refine (B.out).mono ?_;rintro e w2 ⟨v,rfl,F,b2⟩;obtain ⟨ah,ch,rfl,rh,-,-,-⟩:=F.shape;rw [f];have G:=H.trans (b2.mono H.size);have O:=AA (F.monoI H.size);rw [f] at O;have y:=AA (Z.out ah ch w2 rh);clear F B rh Z b2;obtain ⟨fq,L⟩:=uX (Ag l m n A);rw [f] at y;rw [<- L] at y k;clear L;go_wp2_with fail;refine y.out.mono ?_;rintro e w3 ⟨rfl,R⟩;have M:=G.trans (R.mono G.size);have a3:=AA (O.out.below R);clear O R y;cases fq
  ·rw [if_neg (by decide)] at k;obtain ⟨s,i,g⟩:=k.out;rw [s] at i g;rw [if_neg (by decide)] at i g;subst s i g;go_wp2_with fail;go_ret3;exact ⟨_,rfl,BJ _ _,M⟩
  ·rw [if_pos rfl] at k;obtain ⟨s,i,g⟩:=k.out;rw [s] at i g;rw [if_pos rfl] at i g;subst s i g;go_wp2_with fail;go_ret3;exact ⟨_,rfl,a3.out,M⟩
 ·have B:=AA (Oj ((rest.drop d).take z) ⟨b,o + d,none⟩ (u - d) b6 (by rw [f];omega) ((RowAt.drop b8 d).take z));rw [f] at B;rw [<- I] at B k;rw [<- I] at f;clear I a7 a2;go_wp2_with fail;refine (B.out).mono ?_;rintro e w2 ⟨v,rfl,F,b2⟩;obtain ⟨ah,ch,rfl,rh,-,-,-⟩:=F.shape;rw [f];have G:=H.trans (b2.mono H.size);have O:=AA (F.monoI H.size);rw [f] at O;have y:=AA (Z.out ah ch w2 rh);clear F B rh Z b2;obtain ⟨fq,L⟩:=uX (Ag l m n A);rw [f] at y;rw [<- L] at y k;clear L;go_wp2_with fail;refine y.out.mono ?_;rintro e w3 ⟨rfl,R⟩;have M:=G.trans (R.mono G.size);have a3:=AA (O.out.below R);clear O R y;cases fq
  ·rw [if_neg (by decide)] at k;obtain ⟨s,i,g⟩:=k.out;rw [s] at i g;rw [if_neg (by decide)] at i g;subst s i g;go_wp2_with fail;go_ret3;exact ⟨_,rfl,BJ _ _,M⟩
  ·rw [if_pos rfl] at k;obtain ⟨s,i,g⟩:=k.out;rw [s] at i g;rw [if_pos rfl] at i g;subst s i g;go_wp2_with fail;go_ret3;exact ⟨_,rfl,a3.out,M⟩
end Go.Proofs.YtbkokcjolanpeaaGreatDoor
