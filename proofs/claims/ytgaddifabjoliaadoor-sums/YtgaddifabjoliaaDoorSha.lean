import Derived.WalkKit
namespace Go.Proofs.YtgaddifabjoliaaDoor

/-- In what the two sums differ. -/
structure Meas where
  W : Nat
  rounds : Nat
  S0 : Nat × Nat × Nat
  S1 : Nat × Nat × Nat
  s0 : Nat × Nat × Nat
  s1 : Nat × Nat × Nat

def m256 : Meas := ⟨32, 64, (2, 13, 22), (6, 11, 25), (7, 18, 3), (17, 19, 10)⟩
def m512 : Meas := ⟨64, 80, (28, 34, 39), (14, 18, 41), (1, 8, 7), (19, 61, 6)⟩

/-- A word of W bits, turned to the right by n. -/
def rot (W x n : Nat) : Nat := (x / 2 ^ n) ||| (x * 2 ^ (W - n) % 2 ^ W)
def big (W : Nat) (t : Nat × Nat × Nat) (x : Nat) : Nat := (rot W x t.1 ^^^ rot W x t.2.1) ^^^ rot W x t.2.2
def low (W : Nat) (t : Nat × Nat × Nat) (x : Nat) : Nat := (rot W x t.1 ^^^ rot W x t.2.1) ^^^ (x / 2 ^ t.2.2)

def sq : List Nat := [7640891576956012808, 13503953896175478587, 4354685564936845355, 11912009170470909681, 5840696475078001361, 11170449401992604703, 2270897969802886507, 6620516959819538809]
def cu : List Nat := [4794697086780616226, 8158064640168781261, 13096744586834688815, 16840607885511220156, 4131703408338449720, 6480981068601479193, 10538285296894168987, 12329834152419229976, 15566598209576043074, 1334009975649890238, 2608012711638119052, 6128411473006802146, 8268148722764581231, 9286055187155687089, 11230858885718282805, 13951009754708518548, 16472876342353939154, 17275323862435702243, 1135362057144423861, 2597628984639134821, 3308224258029322869, 5365058923640841347, 6679025012923562964, 8573033837759648693, 10970295158949994411, 12119686244451234320, 12683024718118986047, 13788192230050041572, 14330467153632333762, 15395433587784984357, 489312712824947311, 1452737877330783856, 2861767655752347644, 3322285676063803686, 5560940570517711597, 5996557281743188959, 7280758554555802590, 8532644243296465576, 9350256976987008742, 10552545826968843579, 11727347734174303076, 12113106623233404929, 14000437183269869457, 14369950271660146224, 15101387698204529176, 15463397548674623760, 17586052441742319658, 1182934255886127544, 1847814050463011016, 2177327727835720531, 2830643537854262169, 3796741975233480872, 4115178125766777443, 5681478168544905931, 6601373596472566643, 7507060721942968483, 8399075790359081724, 8693463985226723168, 9568029438360202098, 10144078919501101548, 10430055236837252648, 11840083180663258601, 13761210420658862357, 14299343276471374635, 14566680578165727644, 15097957966210449927, 16922976911328602910, 17689382322260857208, 500013540394364858, 748580250866718886, 1242879168328830382, 1977374033974150939, 2944078676154940804, 3659926193048069267, 4368137639120453308, 4836135668995329356, 5532061633213252278, 6448918945643986474, 6902733635092675308, 7801388544844847127]
def top (W r : Nat) : Nat := r / 2 ^ (64 - W)

structure St where
  a : Nat
  b : Nat
  c : Nat
  d : Nat
  e : Nat
  f : Nat
  g : Nat
  h : Nat

def ch (W e f g : Nat) : Nat := (e &&& f) ^^^ ((2 ^ W - 1 - e) &&& g)
def maj (a b c : Nat) : Nat := ((a &&& b) ^^^ (a &&& c)) ^^^ (b &&& c)

/-- One round. -/
def xOf (M : Meas) (k w : Nat) (s : St) : Nat := (s.h + big M.W M.S1 s.e + ch M.W s.e s.f s.g + k + w) % 2 ^ M.W
def yOf (M : Meas) (s : St) : Nat := (big M.W M.S0 s.a + maj s.a s.b s.c) % 2 ^ M.W
def St.step (M : Meas) (k w : Nat) (s : St) : St :=
  ⟨(xOf M k w s + yOf M s) % 2 ^ M.W, s.a, s.b, s.c, (s.d + xOf M k w s) % 2 ^ M.W, s.e, s.f, s.g⟩
def rounds (M : Meas) (w : List Nat) (s : St) : Nat → St
  | 0 => s
  | t + 1 => (rounds M w s t).step M (top M.W (cu.getD t 0)) (w.getD t 0)
def St.add (W : Nat) (s v : St) : St :=
  ⟨(s.a + v.a) % 2 ^ W, (s.b + v.b) % 2 ^ W, (s.c + v.c) % 2 ^ W, (s.d + v.d) % 2 ^ W, (s.e + v.e) % 2 ^ W, (s.f + v.f) % 2 ^ W, (s.g + v.g) % 2 ^ W, (s.h + v.h) % 2 ^ W⟩
def mix (M : Meas) (s : St) (w : List Nat) : St := s.add M.W (rounds M w s M.rounds)

/-- The words of a block, byte by byte; then the further ones. -/
def fillStep (W size : Nat) (c : List Nat) (i : Nat) (b : Nat) : List Nat := c.set (i / size) ((c.getD (i / size) 0 * 256 % 2 ^ W) ||| b)
def fill (W size : Nat) (l : List UInt8) : Nat → List Nat
  | 0 => List.replicate 80 0
  | i + 1 => fillStep W size (fill W size l i) i (l.getD i 0).toNat
def ext1 (M : Meas) (c : List Nat) (t : Nat) : Nat := (low M.W M.s1 (c.getD (t - 2) 0) + c.getD (t - 7) 0 + low M.W M.s0 (c.getD (t - 15) 0) + c.getD (t - 16) 0) % 2 ^ M.W
def ext (M : Meas) (c : List Nat) : Nat → List Nat
  | 0 => c
  | n + 1 => (ext M c n).set (16 + n) (ext1 M (ext M c n) (16 + n))
def sched (M : Meas) (l : List UInt8) : List Nat := ext M (fill M.W (M.W / 8) l l.length) (M.rounds - 16)

/-- So many blocks. -/
def blk (M : Meas) (l : List UInt8) (s : St) : Nat → St
  | 0 => s
  | n + 1 => mix M (blk M l s n) (sched M ((l.drop (n * (2 * M.W))).take (2 * M.W)))

/-- The first n bytes below, the highest first. -/
def be (w : Nat) : Nat → List UInt8
  | 0 => []
  | n + 1 => UInt8.ofNat (w / 256 ^ n) :: be w n

def zeros (M : Meas) (r : Nat) : Nat := (2 * M.W - (r + 1 + M.W / 4) % (2 * M.W)) % (2 * M.W)
def ending (M : Meas) (r : List UInt8) (len : Nat) : List UInt8 :=
  r ++ 128 :: List.replicate (zeros M r.length) 0 ++ (if M.W = 64 then be (len / 2 ^ 61) 8 else []) ++ be (len * 8 % 2 ^ 64) 8

def start (M : Meas) : St :=
  ⟨top M.W (sq.getD 0 0), top M.W (sq.getD 1 0), top M.W (sq.getD 2 0), top M.W (sq.getD 3 0), top M.W (sq.getD 4 0), top M.W (sq.getD 5 0), top M.W (sq.getD 6 0), top M.W (sq.getD 7 0)⟩

def St.out (s : St) (n : Nat) : List UInt8 := be s.a n ++ be s.b n ++ be s.c n ++ be s.d n ++ be s.e n ++ be s.f n ++ be s.g n ++ be s.h n

def sumF (M : Meas) (l : List UInt8) : List UInt8 :=
  let n := l.length / (2 * M.W)
  let e := ending M (l.drop (n * (2 * M.W))) l.length
  (blk M e (blk M (l.take (n * (2 * M.W))) (start M) n) (e.length / (2 * M.W))).out (M.W / 8)

def laidF (key : List UInt8) (on : UInt8) : List UInt8 := (key ++ List.replicate (64 - key.length) 0).map (fun b => b ^^^ on)
def macF (key s : List UInt8) : List UInt8 :=
  let k := if 64 < key.length then sumF m256 key else key
  sumF m256 (laidF k 92 ++ sumF m256 (laidF k 54 ++ s))

end Go.Proofs.YtgaddifabjoliaaDoor
