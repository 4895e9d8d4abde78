/- Plain mathematics of Adler-32: nothing of the program. -/
namespace Go.Proofs.Ythcdcjidoacalaa.Sm
set_option maxRecDepth 100000

def step (p : Int × Int) (c : UInt8) : Int × Int := ((p.1 + (c.toNat : Int)) % 65521, (p.2 + (p.1 + (c.toNat : Int))) % 65521)
def adF (p : Int × Int) (l : List UInt8) : Int × Int := l.foldl step p
def ad (l : List UInt8) : Int × Int := adF (1, 0) l
def lo (l : List UInt8) : Int := (ad l).1
def hi (l : List UInt8) : Int := (ad l).2
def adler (l : List UInt8) : Int := hi l * 65536 + lo l

/-- the sum of the bytes, and the sum of the sums. -/
def S : List UInt8 → Int
  | [] => 0
  | c :: l => (c.toNat : Int) + S l
def T : List UInt8 → Int
  | [] => 0
  | c :: l => ((l.length : Int) + 1) * (c.toNat : Int) + T l

theorem mod_of {x y : Int} (k : Int) (h : x = y + 65521 * k) : x % 65521 = y % 65521 := by
  rw [h]; exact Int.add_mul_emod_self_left _ _ _

theorem adF_closed (l : List UInt8) : ∀ a b : Int, 0 ≤ a → a < 65521 → 0 ≤ b → b < 65521 →
    (adF (a, b) l).1 = (a + S l) % 65521 ∧ (adF (a, b) l).2 = (b + (l.length : Int) * a + T l) % 65521 := by
  induction l with
  | nil => intro a b h0 h1 h2 h3; simp only [adF, List.foldl, S, T, List.length]; omega
  | cons c l ih =>
    intro a b h0 h1 h2 h3
    have e : adF (a, b) (c :: l) = adF ((a + (c.toNat : Int)) % 65521, (b + (a + (c.toNat : Int))) % 65521) l := rfl
    obtain ⟨i1, i2⟩ := ih ((a + (c.toNat : Int)) % 65521) ((b + (a + (c.toNat : Int))) % 65521) (by omega) (by omega) (by omega) (by omega)
    rw [e, i1, i2]
    refine ⟨by simp only [S]; omega, ?_⟩
    simp only [T, List.length_cons]
    have q1 : (a + (c.toNat : Int)) % 65521 = (a + (c.toNat : Int)) - 65521 * ((a + (c.toNat : Int)) / 65521) := by omega
    have q2 : (b + (a + (c.toNat : Int))) % 65521 = (b + (a + (c.toNat : Int))) - 65521 * ((b + (a + (c.toNat : Int))) / 65521) := by omega
    rw [q1, q2]
    generalize (a + (c.toNat : Int)) / 65521 = u
    generalize (b + (a + (c.toNat : Int))) / 65521 = v
    refine mod_of (-v - (l.length : Int) * u) ?_
    push_cast
    generalize (l.length : Int) = n
    generalize (c.toNat : Int) = d
    grind

theorem lo_eq (l : List UInt8) : lo l = (1 + S l) % 65521 := (adF_closed l 1 0 (by omega) (by omega) (by omega) (by omega)).1
theorem hi_eq (l : List UInt8) : hi l = ((l.length : Int) + T l) % 65521 := by
  have h := (adF_closed l 1 0 (by omega) (by omega) (by omega) (by omega)).2
  unfold hi ad; rw [h]; congr 1; omega
theorem lo_range (l : List UInt8) : 0 ≤ lo l ∧ lo l < 65521 := by rw [lo_eq]; omega
theorem hi_range (l : List UInt8) : 0 ≤ hi l ∧ hi l < 65521 := by rw [hi_eq]; omega
theorem adler_range (l : List UInt8) : 0 ≤ adler l ∧ adler l < 4294967296 := by
  have := lo_range l; have := hi_range l; unfold adler; omega
theorem adler_lo (l : List UInt8) : adler l % 65536 = lo l := by
  have := lo_range l; have := hi_range l; unfold adler; omega
theorem adler_hi (l : List UInt8) : adler l / 65536 = hi l := by
  have := lo_range l; have := hi_range l; unfold adler; omega
theorem lo_nil : lo [] = 1 := rfl
theorem hi_nil : hi [] = 0 := rfl
theorem lo_snoc (l : List UInt8) (c : UInt8) : lo (l ++ [c]) = (lo l + (c.toNat : Int)) % 65521 := by
  unfold lo ad adF; rw [List.foldl_append]; rfl
theorem hi_snoc (l : List UInt8) (c : UInt8) : hi (l ++ [c]) = (hi l + (lo l + (c.toNat : Int))) % 65521 := by
  unfold hi lo ad adF; rw [List.foldl_append]; rfl

theorem S_append (a b : List UInt8) : S (a ++ b) = S a + S b := by
  induction a with
  | nil => simp [S]
  | cons c l ih => simp only [List.cons_append, S, ih]; omega
theorem T_append (a b : List UInt8) : T (a ++ b) = T a + (b.length : Int) * S a + T b := by
  induction a with
  | nil => simp [S, T]
  | cons c l ih =>
    simp only [List.cons_append, T, S, ih, List.length_append]
    push_cast
    generalize (l.length : Int) = n
    generalize (b.length : Int) = m
    generalize (c.toNat : Int) = d
    grind

/-- the halves of two texts, one behind the other. -/
theorem lo_append (a b : List UInt8) : lo (a ++ b) = (lo a + lo b + 65520) % 65521 := by
  simp only [lo_eq, S_append]; omega
theorem hi_append (a b : List UInt8) : hi (a ++ b) = (hi a + hi b + (b.length : Int) % 65521 * (lo a + 65520)) % 65521 := by
  have e1 := hi_eq (a ++ b)
  rw [e1, T_append]
  rw [hi_eq a, hi_eq b, lo_eq a]
  have q1 : ((a.length : Int) + T a) % 65521 = ((a.length : Int) + T a) - 65521 * (((a.length : Int) + T a) / 65521) := by omega
  have q2 : ((b.length : Int) + T b) % 65521 = ((b.length : Int) + T b) - 65521 * (((b.length : Int) + T b) / 65521) := by omega
  have q3 : (1 + S a) % 65521 = (1 + S a) - 65521 * ((1 + S a) / 65521) := by omega
  have q4 : (b.length : Int) % 65521 = (b.length : Int) - 65521 * ((b.length : Int) / 65521) := by omega
  rw [q1, q2, q3, q4]
  generalize ((a.length : Int) + T a) / 65521 = u1
  generalize ((b.length : Int) + T b) / 65521 = u2
  generalize (1 + S a) / 65521 = u3
  generalize hu : (b.length : Int) / 65521 = u4
  rw [List.length_append]
  push_cast
  generalize (a.length : Int) = m
  generalize (b.length : Int) = n
  symm
  refine mod_of (-u1 - u2 - n * u3 + n - u4 * (1 + S a - 65521 * u3 + 65520)) ?_
  grind

/-- one byte changed. -/
theorem tells (x y : List UInt8) (c d : UInt8) (h : c ≠ d) : adler (x ++ d :: y) ≠ adler (x ++ c :: y) := by
  intro e
  have e1 : lo (x ++ d :: y) = lo (x ++ c :: y) := by rw [← adler_lo, e, adler_lo]
  rw [lo_eq, lo_eq, S_append, S_append] at e1
  simp only [S] at e1
  have hc := c.toNat_lt
  have hd := d.toNat_lt
  have hn : c.toNat ≠ d.toNat := fun k => h (UInt8.toNat_inj.1 k)
  omega

/-- two that stand together changed places. -/
theorem swaps (x y : List UInt8) (c d : UInt8) (h : c ≠ d) : adler (x ++ d :: c :: y) ≠ adler (x ++ c :: d :: y) := by
  intro e
  have e1 : hi (x ++ d :: c :: y) = hi (x ++ c :: d :: y) := by rw [← adler_hi, e, adler_hi]
  rw [hi_eq, hi_eq, T_append, T_append] at e1
  simp only [T, List.length_append, List.length_cons] at e1
  have hc := c.toNat_lt
  have hd := d.toNat_lt
  have hn : c.toNat ≠ d.toNat := fun k => h (UInt8.toNat_inj.1 k)
  push_cast at e1
  have p1 : ((y.length : Int) + 1 + 1) * (d.toNat : Int) = (y.length : Int) * (d.toNat : Int) + 2 * (d.toNat : Int) := by grind
  have p2 : ((y.length : Int) + 1 + 1) * (c.toNat : Int) = (y.length : Int) * (c.toNat : Int) + 2 * (c.toNat : Int) := by grind
  have p3 : ((y.length : Int) + 1) * (d.toNat : Int) = (y.length : Int) * (d.toNat : Int) + (d.toNat : Int) := by grind
  have p4 : ((y.length : Int) + 1) * (c.toNat : Int) = (y.length : Int) * (c.toNat : Int) + (c.toNat : Int) := by grind
  rw [p1, p2, p3, p4] at e1
  generalize (y.length : Int) * (d.toNat : Int) = r1 at e1
  generalize (y.length : Int) * (c.toNat : Int) = r2 at e1
  generalize ((y.length : Int) + 1 + 1) * S x = r3 at e1
  omega
end Go.Proofs.Ythcdcjidoacalaa.Sm
