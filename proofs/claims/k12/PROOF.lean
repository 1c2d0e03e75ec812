import PyProof.Rows.All
import Wide.All
import OpenK.AllK
import Wide.FinOn
import HandS.ForMost
import HandS.Zip
import KE.GoesZip
import KE.GoesMore
import KE.GoesEnum
import HandS.Conv
import HandS.Wide
import HandS.More
import HandS.SortRule
import HandS.IterVal
import PyProof.Rows.SetFrom
import HandS.IsInst
import HandS.ExcCtx
import HandS.RaiseMore
import PyProof.ReprRoads
import PyProof.ReprBulk
import PyProof.Rows.StrMul
import KE.KxIndex
import PyProof.FitsInt
import PyProof.Rows.ReprShort
import HandS.TupAny
import HandS.Strs
import HandS.Sort
import PySem.Challenge.RW_pupilpairs_k12_calls_judged
set_option Elab.async false
set_option maxRecDepth 100000
set_option maxHeartbeats 2000000
namespace Zst
open PySem PySem.Spec PyProof.Rows L2

/-- what a zip of the text x and the tuple at b yields -/
def ItzS (K : PySem.W.Frag) (x : Str) (b : Addr) : It :=
  ⟨fun i H => ∃ (ys : List V) (c : Nat) (y : V), SqT K H b ys ∧ x.cps[i]? = some c ∧ ys[i]? = some y,
    fun i H v H' => ∃ (T : Addr) (c : Nat) (y : V), v = .ref T ∧ H T = none ∧ H' = upd H T (.tup [.str ⟨#[c]⟩, y]) ∧ x.cps[i]? = some c ∧ ∀ ys, SqT K H b ys → ys[i]? = some y,
    fun i H => ∃ ys : List V, SqT K H b ys ∧ ((x.cps.size = i ∧ i ≤ ys.length) ∨ (ys.length = i ∧ i ≤ x.cps.size))⟩

def tnS (z TI TO i1 i2 b : Addr) (x : Str) (t : Tok) (i : Nat) (h : Heap) : Prop :=
  IsZip h z TI TO .none ∧ IsTupOf2 h TI (.ref i1) (.ref i2) ∧ (∃ u v, IsTupOf2 h TO u v) ∧ h.IsStrIter i1 (strIterType x) x t i ∧ h.IsTupleIter i2 b i

theorem turnS {P : Program} {w : World} {K : PySem.W.Frag} {elts : List Expr} {kk : Nat} {tpos : Pos} {z TI TO i1 i2 b : Addr} {x : Str} {t : Tok} (D : ZipSep2 z TI TO i1 i2 [i1] [i2, b]) (hbi : b ≠ i2) :
    Turn P w K (.Tuple elts kk tpos) (ItzS K x b) [z, TI, TO, i1, i2] z (tnS z TI TO i1 i2 b x t) where
  mem := by simp
  obj := by
    rintro i h ⟨g1, g2, ⟨u, v, g3⟩, ⟨o4, g4, _, d4⟩, ⟨o5, g5, _, d5⟩⟩ c hc
    have hc' : c = z ∨ c = TI ∨ c = TO ∨ c = i1 ∨ c = i2 := by simpa using hc
    rcases hc' with rfl | rfl | rfl | rfl | rfl
    · exact ⟨_, g1, fun _ q => nomatch q⟩
    · exact ⟨_, g2, fun _ q => nomatch q⟩
    · exact ⟨_, g3, fun _ q => nomatch q⟩
    · exact ⟨_, g4, fun _ q => by rw [d4] at q; cases q⟩
    · exact ⟨_, g5, fun _ q => by rw [d5] at q; cases q⟩
  keep := by
    rintro i h h' ⟨g1, g2, ⟨u, v, g3⟩, ⟨o4, g4, r4⟩, g5⟩ k
    exact ⟨k z (by simp) _ g1, k TI (by simp) _ g2, ⟨u, v, k TO (by simp) _ g3⟩, ⟨o4, k i1 (by simp) _ g4, r4⟩, g5.at fun o q => k i2 (by simp) o q⟩
  item := by
    intro X hP hw hK hc i pins s σ H E I hf st hg
    subst hP hw hK
    obtain ⟨g1, g2, ⟨u, v, g3⟩, g4, g5⟩ := st
    obtain ⟨ys, c, y, hq, hcx, hy⟩ := hg
    obtain ⟨its, rv, p, _⟩ := I.tuple hq
    have hd : X.A.handled = none := I.ok.hd hc
    have hi1 : i < x.cps.size := (Array.getElem?_eq_some_iff.mp hcx).1
    have hi2 : i < its.toArray.size := by
      have q1 := (List.getElem?_eq_some_iff.mp hy).1
      have q2 := rv.length
      simp
      omega
    have D1 := Draws.text (prog := X.prog) (w := X.w) (A := X.A.in1) hd i1 x t
    have D2 := Draws.tuple (prog := X.prog) (w := X.w) (A := X.A.in1) hd i2 b hbi its.toArray
    refine wpAny_pyNext_zipD2_item D D1 D2 g1 g2 g3 g4 ⟨g5, p⟩ hi1 hi2 fun x1 x2 h' tk e1 e2 b1 b2 d1 d2 b5 b6 b7 => ?_
    have zlt : z < s.heap.objs.size := Heap.lt_size g1
    refine ⟨_, rfl, wpAny_letOwnedTupleGo_zip (s := { s with heap := h', toks := tk }) b1 fun h'' c1 sb => ?_⟩
    obtain ⟨cc, tt, hcc, rfl⟩ := e1
    have ecc : cc = c := Option.some.inj (hcc.symm.trans hcx)
    subst ecc
    obtain ⟨u2, hu2, ru2⟩ := rv.get hy
    have eu : x2 = u2 := by
      have q : its.toArray[i]? = some x2 := e2
      rw [List.getElem?_toArray, hu2] at q
      exact (Option.some.inj q).symm
    subst eu
    have hT : h''.get? s.heap.objs.size = some { cls := .type "tuple", data := .seq #[Value.str ⟨#[cc]⟩ tt, x2] } := (sb.2 _ (Nat.ne_of_gt zlt)).trans b5
    have new : ObjOk X.prog X.w (upd H s.heap.objs.size (.tup [.str ⟨#[cc]⟩, y])) h'' s.heap.objs.size (.tup [.str ⟨#[cc]⟩, y]) :=
      ⟨by show 2 ≤ sizeLine; decide, [Value.str ⟨#[cc]⟩ tt, x2], .cons ⟨tt, rfl⟩ (.cons ru2 .nil), ⟨_, hT, rfl, _, rfl⟩⟩
    have keepAll : ∀ a o, a ≠ z → a ≠ TO → a ≠ i1 → a ≠ i2 → s.heap.get? a = some o → h''.get? a = some o := fun a o n1 n2 n3 n4 q => (sb.2 a n1).trans (b7 a o n1 n2 n3 n4 q)
    have I1 : Inv X pins σ (upd H s.heap.objs.size (.tup [.str ⟨#[cc]⟩, y])) { s with heap := h'', toks := tk } :=
      I.turnedNew (t' := tk) (ch := [z, TI, TO, i1, i2]) (fun a o ha q => keepAll a o (fun q' => ha (by simp [q'])) (fun q' => ha (by simp [q'])) (fun q' => ha (by simp [q'])) (fun q' => ha (by simp [q'])) q) hf (Nat.le_refl _) new
    have d2' := d2.1
    refine ⟨.ref s.heap.objs.size, _, I1, rfl, ⟨_, cc, y, rfl, I.hok.fresh (Nat.le_refl _), rfl, hcx, fun l hl => by rw [I.tuple_inj hl hq]; exact hy⟩, ⟨c1, ?_, ⟨_, _, (sb.2 _ D.TOz).trans b2⟩, ?_, ?_⟩, fun a ha => ?_⟩
    · exact keepAll TI _ D.TIz D.TITO D.TIi1 D.TIi2 g2
    · obtain ⟨o4, q4, r4⟩ := d1
      exact ⟨o4, (sb.2 _ D.zi1.symm).trans q4, r4⟩
    · exact d2'.at fun o q => (sb.2 _ D.zi2.symm).trans q
    · have alt : a < s.heap.objs.size := by
        have ha' : a = z ∨ a = TI ∨ a = TO ∨ a = i1 ∨ a = i2 := by simpa using ha
        rcases ha' with rfl | rfl | rfl | rfl | rfl
        · exact zlt
        · exact Heap.lt_size g2
        · exact Heap.lt_size g3
        · obtain ⟨_, q, _⟩ := g4; exact Heap.lt_size q
        · obtain ⟨_, q, _⟩ := g5; exact Heap.lt_size q
      rw [upd_ne (Nat.ne_of_lt alt)]
      exact (hf a ha).1
  done := by
    intro X hP hw hK hc i pins s σ H E I hf st hg
    subst hP hw hK
    obtain ⟨g1, g2, ⟨u, v, g3⟩, g4, g5⟩ := st
    obtain ⟨ys, hq, hend⟩ := hg
    obtain ⟨its, rv, p, _⟩ := I.tuple hq
    have hd : X.A.handled = none := I.ok.hd hc
    have l2 := rv.length
    have D1 := Draws.text (prog := X.prog) (w := X.w) (A := X.A.in1) hd i1 x t
    have D2 := Draws.tuple (prog := X.prog) (w := X.w) (A := X.A.in1) hd i2 b hbi its.toArray
    have sz : its.toArray.size = ys.length := by simp [l2]
    refine wpAny_pyNext_zipD2_end D D1 D2 g1 g2 g3 g4 ⟨g5, p⟩ (by omega) (by omega) (by omega) fun h' tk hk => ⟨rfl, ?_⟩
    exact I.turnedL (t' := tk) (ch := [z, TI, TO, i1, i2]) (fun a o ha q => hk a o (fun q' => ha (by simp [q'])) (fun q' => ha (by simp [q'])) (fun q' => ha (by simp [q'])) (fun q' => ha (by simp [q'])) q) hf
  self := fun A i s Q E st h => wpAny_pyIter_zip st.1 h

def iZipS (K : PySem.W.Frag) (ta : TA) : TI := fun σ H R => ta σ H fun vs H1 => ∃ (x : Str) (b : Addr) (ys : List V), vs = [.str x, .ref b] ∧ SqT K H1 b ys ∧ R (ItzS K x b) H1

theorem pi_zipS {X : Cx} {e e2 : Expr} {ta : TA} {p pos tpos : Pos} {elts : List Expr} {kk : Nat} (hg : Gl X "zip") (hm : X.mg "zip" = none) (ha : PA X [e, e2] ta)
    (hs : starEach [e, e2] X.env = (false, eval e X.env) :: starEach [e2] X.env := by rfl) (hpl : (backTo pos (starEach [e2] X.env)).any (·.1) = false := by rfl) :
    PI X (.Tuple elts kk tpos) (.Call (.Name "zip" p) [e, e2] [] pos) (iZipS X.K ta) := by
  constructor
  intro pins s σ H R I h
  refine Call_ (ld_blt I hg hm PyProof.Rows.boot_zip (PyProof.Rows.callWith_type1 (thn (ha.run pos pins s σ H _ I h) ?_) hs hpl))
  rintro us s1 ⟨vs, H1, I1, r1, x, b, ys, rfl, hq, q⟩
  match us, r1 with
  | _, .cons (b := u1) ⟨t, e1⟩ (.cons (b := u2) e2 .nil) =>
    subst e1
    have e2' : u2 = Value.ref b := e2
    subst e2'
    obtain ⟨its, rv, p1, _⟩ := I1.tuple hq
    have p1' : s1.heap.IsTuple b its.toArray := p1
    have blt : b < s1.heap.objs.size := by
      obtain ⟨_, q1, _⟩ := id p1
      exact Heap.lt_size q1
    refine zip_begins2 (begins_text x t) (begins_tuple b its.toArray) trivial p1' fun h' c1 c2 c3 c4 c5 hsz hk => wpAny_pyIter_zip c1 ?_
    have I2 : Inv X pins σ H1 { s1 with heap := h' } := I1.kept (t' := s1.toks) hk
    have D : ZipSep2 (s1.heap.objs.size + 4) (s1.heap.objs.size + 2) (s1.heap.objs.size + 3) s1.heap.objs.size (s1.heap.objs.size + 1) [s1.heap.objs.size] [s1.heap.objs.size + 1, b] :=
      zip_sep2 (fp1 := []) (fp2 := [b]) (fun c hc => nomatch hc) (fun c hc => by rw [List.mem_singleton.mp hc]; exact blt)
    refine ⟨s1.heap.objs.size + 4, [s1.heap.objs.size + 4, s1.heap.objs.size + 2, s1.heap.objs.size + 3, s1.heap.objs.size, s1.heap.objs.size + 1], _, _, H1, rfl, I2, turnS (x := x) (t := t) D (Nat.ne_of_lt (Nat.lt_succ_of_lt blt)), ⟨c1, c2, ⟨_, _, c3⟩, ⟨_, c4, rfl, rfl⟩, ⟨_, c5, rfl, rfl⟩⟩, fun c hc => ?_, q⟩
    have hc' : c = s1.heap.objs.size + 4 ∨ c = s1.heap.objs.size + 2 ∨ c = s1.heap.objs.size + 3 ∨ c = s1.heap.objs.size ∨ c = s1.heap.objs.size + 1 := by simpa using hc
    have hle : s1.heap.objs.size ≤ c := by
      rcases hc' with e | e | e | e | e
      all_goals first | exact e ▸ Nat.le_add_right _ _ | exact e ▸ Nat.le_refl _
    exact I1.fpOk hle (I1.hok.fresh hle)
end Zst

set_option Elab.async false
set_option maxRecDepth 100000
set_option maxHeartbeats 2000000
set_option linter.all false
/-! symbolic execution over the hand layer: what stays (Ex), and one rule a reading -/
namespace Sx
open PySem PySem.Spec PyProof.Rows L2

/-- not the four cells of a bag -/
def NB (o : HO) : Prop := ∀ x y z c, o ≠ .lst [.int x, .int y, .int z, .ref c]
theorem NB.tup {xs : List V} : NB (.tup xs) := fun _ _ _ _ h => nomatch h
theorem NB.len {xs : List V} (h : xs.length ≠ 4) : NB (.lst xs) := fun _ _ _ _ e => h (by injection e with e; rw [e]; rfl)
theorem NB.at0 {v : V} {xs : List V} (h : ∀ i, v ≠ .int i) : NB (.lst (v :: xs)) := fun _ _ _ _ e => by
  injection e with e
  exact h _ (List.cons.inj e).1
theorem NB.at3 {a b c v : V} {xs : List V} (h : ∀ i, v ≠ .ref i) : NB (.lst (a :: b :: c :: v :: xs)) := fun _ _ _ _ e => by
  injection e with e
  exact h _ (List.cons.inj (List.cons.inj (List.cons.inj (List.cons.inj e).2).2).2).1
theorem NB.ints {ns : List Int} : NB (.lst (ns.map V.int)) := fun x y z c e => by
  injection e with e
  have h := congrArg (fun l : List V => l[3]?) e
  simp only [List.getElem?_map] at h
  cases q : ns[3]? with
  | none => rw [q] at h; cases h
  | some n => rw [q] at h; cases h
theorem NB.refs {l : List V} (h : ∀ v ∈ l, ∃ a, v = .ref a) : NB (.lst l) := fun x y z c e => by
  injection e with e
  obtain ⟨a, q⟩ := h (.int x) (by rw [e]; simp)
  cases q
theorem NB.frz {o : Obj} {u : HO} : NB (.frz o u) := fun _ _ _ _ h => nomatch h
theorem NB.ins {C dx : Addr} {fs : List (Str × V)} : NB (.ins C dx fs) := fun _ _ _ _ h => nomatch h
theorem NB.own {x : Addr} : NB (.own x) := fun _ _ _ _ h => nomatch h

structure BagC (b c : Addr) (H : Hp) : Prop where
  ex : ∃ (x y z : Int) (ns : List Int), H b = some (.lst [.int x, .int y, .int z, .ref c]) ∧ H c = some (.lst (ns.map V.int)) ∧ 0 ≤ x ∧ 0 ≤ y ∧ y < 2147483647 ∧ 0 ≤ z
def Bag (b : Addr) (H : Hp) : Prop := ∃ c, BagC b c H
/-- all but bags stands as it stood, bags are bags -/
structure Ex (H H' : Hp) : Prop where
  kp : ∀ a o, H a = some o → NB o → H' a = some o
  bg : ∀ b c, BagC b c H → BagC b c H'
section
variable {H H' H1 H2 : Hp} {p a b c l : Addr} {o u : HO}
theorem Ex.refl (H : Hp) : Ex H H := ⟨fun _ _ h _ => h, fun _ _ h => h⟩
theorem Ex.trans (e : Ex H H1) (f : Ex H1 H2) : Ex H H2 := ⟨fun a o h n => f.kp a o (e.kp a o h n) n, fun b c h => f.bg b c (e.bg b c h)⟩
theorem Ex.bag (e : Ex H H1) (h : Bag b H) : Bag b H1 := let ⟨c, q⟩ := h; ⟨c, e.bg b c q⟩
theorem Ex.new (h : H p = none) : Ex H (upd H p o) := by
  have all : ∀ a o', H a = some o' → upd H p o a = some o' := fun a o' e => by rw [upd_ne (ne_of_none e h)]; exact e
  exact ⟨fun a o' e _ => all a o' e, fun b c ⟨x, y, z, ns, e1, e2, r⟩ => ⟨x, y, z, ns, all _ _ e1, all _ _ e2, r⟩⟩
theorem Ex.mut (e : Ex H H1) (h : H l = none) : Ex H (upd H1 l o) := by
  refine ⟨fun a o' q n => ?_, fun b c q => ?_⟩
  · rw [upd_ne (ne_of_none q h)]
    exact e.kp a o' q n
  · obtain ⟨x0, y0, z0, ns0, k1, k2, _⟩ := id q
    obtain ⟨x, y, z, ns, e1, e2, r⟩ := e.bg b c q
    exact ⟨x, y, z, ns, by rw [upd_ne (ne_of_none k1 h)]; exact e1, by rw [upd_ne (ne_of_none k2 h)]; exact e2, r⟩
theorem Ex.fresh (e : Ex H H1) (h : H1 a = none) (n : NB o) : H a ≠ some o := fun q => by
  rw [e.kp a o q n] at h
  cases h
theorem bag_some (h : Bag b H) : ∃ o, H b = some o := let ⟨_, x, y, z, ns, e, _⟩ := h; ⟨_, e⟩
theorem bag_ne (h : Bag b H) (hp : H p = none) : b ≠ p := let ⟨_, e⟩ := bag_some h; ne_of_none e hp

/-! ### one rule a reading -/
variable {K : PySem.W.Frag} {σ : L2.St} {Q : VK} {v w : V} {D : Ends} {t u : TT} {ta tb te : TE} {A B : Prop}
theorem x_var {i : Nat} (hx : σ[i]? = some (some v)) (k : Q v H) : tVar i σ H Q := ⟨v, hx, k⟩
theorem x_c (k : Q v H) : tC v σ H Q := k
theorem x_op {r : R2} (k : ta σ H fun x H1 => tb σ H1 fun y H2 => r x y H2 Q) : tOp r ta tb σ H Q := k
theorem x_un {r : V → Hp → VK → Prop} (k : ta σ H fun x H1 => r x H1 Q) : tUn r ta σ H Q := k
theorem x_I0 {g : Int → Int → V} {i j : Int} (k : Q (g i j) H) : rI0 g (.int i) (.int j) H Q := ⟨i, j, rfl, rfl, k⟩
theorem x_I {C : Int → Int → Prop} {g : Int → Int → V} {i j : Int} (c : C i j) (k : Q (g i j) H) : rI C g (.int i) (.int j) H Q := ⟨i, j, rfl, rfl, c, k⟩
theorem x_U {g : Int → V} {i : Int} (k : Q (g i) H) : rU g (.int i) H Q := ⟨i, rfl, k⟩
theorem x_Eq (h : scal v w = true) (k : Q (.bl (decide (v = w))) H) : rEq v w H Q := ⟨h, k⟩
theorem x_Ne (h : scal v w = true) (k : Q (.bl (!decide (v = w))) H) : rNe v w H Q := ⟨h, k⟩
theorem x_EqI {i j : Int} (k : Q (.bl (decide (i = j))) H) : rEq (.int i) (.int j) H Q := ⟨rfl, by
  rw [show decide ((V.int i) = .int j) = decide (i = j) from decide_eq_decide.mpr ⟨fun h => V.int.inj h, fun h => by rw [h]⟩]; exact k⟩
theorem x_NeI {i j : Int} (k : Q (.bl (!decide (i = j))) H) : rNe (.int i) (.int j) H Q := ⟨rfl, by
  rw [show decide ((V.int i) = .int j) = decide (i = j) from decide_eq_decide.mpr ⟨fun h => V.int.inj h, fun h => by rw [h]⟩]; exact k⟩
theorem x_EqS {i j : Str} (k : Q (.bl (decide (i = j))) H) : rEq (.str i) (.str j) H Q := ⟨rfl, by
  rw [show decide ((V.str i) = .str j) = decide (i = j) from decide_eq_decide.mpr ⟨fun h => V.str.inj h, fun h => by rw [h]⟩]; exact k⟩
theorem x_NeS {i j : Str} (k : Q (.bl (!decide (i = j))) H) : rNe (.str i) (.str j) H Q := ⟨rfl, by
  rw [show decide ((V.str i) = .str j) = decide (i = j) from decide_eq_decide.mpr ⟨fun h => V.str.inj h, fun h => by rw [h]⟩]; exact k⟩
theorem x_EqD {d e : PyData} (h1 : Dp K H v d) (h2 : Dp K H w e) (s1 : SeqAt.shaped d = true) (s2 : SeqAt.shaped e = true) (k : Q (.bl (PyData.eqv d e)) H) : rEqD K v w H Q := ⟨d, e, h1, h2, s1, s2, k⟩
theorem x_NeD {d e : PyData} (h1 : Dp K H v d) (h2 : Dp K H w e) (s1 : SeqAt.shaped d = true) (s2 : SeqAt.shaped e = true) (k : Q (.bl (!PyData.eqv d e)) H) : rNeD K v w H Q := ⟨d, e, h1, h2, s1, s2, k⟩
theorem x_chain {r r' : R2} {tc : TE} (k : ta σ H fun x H1 => tb σ H1 fun y H2 => r x y H2 fun z H3 => ∃ k, z = .bl k ∧ (if k = true then tc σ H3 fun z' H4 => r' y z' H4 Q else Q (.bl false) H3)) : tChain r r' ta tb tc σ H Q := k
-- lists, tuples
theorem x_ixL {xs : List V} {i : Int} (h : H p = some (.lst xs)) (hi : atI xs i = some v) (k : Q v H) : rIxL K (.ref p) (.int i) H Q := ⟨p, xs, i, v, rfl, rfl, SqL.of h, hi, k⟩
theorem x_ixT {xs : List V} {i : Int} (h : H p = some (.tup xs)) (hi : atI xs i = some v) (k : Q v H) : rIxT K (.ref p) (.int i) H Q := ⟨p, xs, i, v, rfl, rfl, SqT.of h, hi, k⟩
/-- a new object -/
def LenNew (xs : List V) (o : HO) (H : Hp) (Q : VK) : Prop := xs.length ≤ sizeLine ∧ ∀ p, H p = none → Q (.ref p) (upd H p o)
def JustNew (o : HO) (H : Hp) (Q : VK) : Prop := ∀ p, H p = none → Q (.ref p) (upd H p o)
theorem x_lenNew {xs : List V} (hl : xs.length ≤ sizeLine) (k : ∀ p H1, Ex H H1 → H p = none → H1 p = some o → Q (.ref p) H1) : LenNew xs o H Q := ⟨hl, fun p hp => k p _ (Ex.new hp) hp upd_same⟩
theorem x_new (k : ∀ p H1, Ex H H1 → H p = none → H1 p = some o → Q (.ref p) H1) : JustNew o H Q := fun p hp => k p _ (Ex.new hp) hp upd_same
theorem x_tup {a : TA} (k : a σ H fun xs H1 => LenNew xs (.tup xs) H1 Q) : tTup a σ H Q := k
theorem x_lst {a : TA} (k : a σ H fun xs H1 => LenNew xs (.lst xs) H1 Q) : tLst a σ H Q := k
theorem x_sl {r : V → Option Int → Option Int → Hp → VK → Prop} {tl th : TO} (k : ta σ H fun x H1 => tl σ H1 fun l H2 => th σ H2 fun u H3 => r x l u H3 Q) : tSl r ta tl th σ H Q := k
theorem x_noPart {q : Option Int → Hp → Prop} (k : q none H) : tNoPart σ H q := k
theorem x_part {q : Option Int → Hp → Prop} (k : ta σ H fun x H1 => ∃ i, x = .int i ∧ q (some i) H1) : tPart ta σ H q := k
theorem x_ex_int {P : Int → Prop} {i : Int} (k : P i) : ∃ j, V.int i = .int j ∧ P j := ⟨i, rfl, k⟩
theorem x_slL {xs : List V} {lo hi : Option Int} (h : H a = some (.lst xs)) (k : JustNew (.lst (cutV xs lo hi)) H Q) : rSlL K (.ref a) lo hi H Q := ⟨a, xs, rfl, SqL.of h, k⟩
-- tests, statements
theorem x_ex_bl {P : Bool → Prop} {b : Bool} (k : P b) : ∃ c, V.bl b = .bl c ∧ P c := ⟨b, rfl, k⟩
theorem x_test {q : Bool → Hp → Prop} (k : ta σ H fun x H' => ∃ b, x = .bl b ∧ q b H') : tTest ta σ H q := k
theorem x_B {q : Bool → Hp → Prop} (k : ta σ H fun x H' => ∃ b, x = .bl b ∧ q b H') : tB ta σ H q := k
theorem x_and {q : Bool → Hp → Prop} (k : t σ H fun c H1 => if c = true then u σ H1 q else q false H1) : tAnd t u σ H q := k
theorem x_or {q : Bool → Hp → Prop} (k : t σ H fun c H1 => if c = true then q true H1 else u σ H1 q) : tOr t u σ H q := k
theorem x_not {q : Bool → Hp → Prop} (k : t σ H fun c H1 => q (!c) H1) : tNot t σ H q := k
theorem x_andV (k : ta σ H fun x H1 => ∃ c, x = .bl c ∧ if c = true then tb σ H1 Q else Q (.bl false) H1) : tAndV ta tb σ H Q := k
theorem x_orV (k : ta σ H fun x H1 => ∃ c, x = .bl c ∧ if c = true then Q (.bl true) H1 else tb σ H1 Q) : tOrV ta tb σ H Q := k
theorem x_notV (k : ta σ H fun x H1 => ∃ c, x = .bl c ∧ Q (.bl (!c)) H1) : tNotV ta σ H Q := k
theorem x_ifE (k : t σ H fun c H1 => if c = true then ta σ H1 Q else tb σ H1 Q) : tIf t ta tb σ H Q := k
theorem x_iteT (k : A) : if true = true then A else B := by rw [if_pos rfl]; exact k
theorem x_iteF (k : B) : if false = true then A else B := by rw [if_neg Bool.false_ne_true]; exact k
theorem x_iteD {c : Prop} [Decidable c] (k1 : c → A) (k2 : ¬ c → B) : if decide c = true then A else B := by
  by_cases h : c
  · rw [decide_eq_true h, if_pos rfl]; exact k1 h
  · rw [decide_eq_false h, if_neg Bool.false_ne_true]; exact k2 h
theorem x_iteN {c : Prop} [Decidable c] (k1 : ¬ c → A) (k2 : c → B) : if (!decide c) = true then A else B := by
  by_cases h : c
  · rw [decide_eq_true h]; exact x_iteF (k2 h)
  · rw [decide_eq_false h]; exact x_iteT (k1 h)
theorem x_iteB {c : Bool} (k1 : c = true → A) (k2 : c = false → B) : if c = true then A else B := by
  cases c with
  | true => exact x_iteT (k1 rfl)
  | false => exact x_iteF (k2 rfl)
theorem x_if {tu tw : TS} (k : t σ H fun b H1 => if b = true then tu D σ H1 else tw D σ H1) : tIfS t tu tw D σ H := k
theorem x_seq {tu tw : TS} (k : tu { D with nx := tw D } σ H) : tSeq tu tw D σ H := k
theorem x_next (k : D.nx σ H) : tNext D σ H := k
theorem x_asg {g : TG} (k : ta σ H fun x H1 => g x σ H1 D.nx) : tAsg ta g D σ H := k
theorem x_gName {i : Nat} {q : L2.St → Hp → Prop} (k : q (σ.set i (some v)) H) : gName i v σ H q := k
theorem x_gTup {n : Nat} {g : TGs} {q : L2.St → Hp → Prop} {xs : List V} (h : H p = some (.tup xs)) (hn : xs.length = n) (k : g xs σ H q) : gTup K n g (.ref p) σ H q := ⟨p, xs, rfl, SqT.of h, hn, k⟩
theorem x_gCons {g : TG} {gs : TGs} {vs : List V} {q : L2.St → Hp → Prop} (k : g v σ H fun σ' H' => gs vs σ' H' q) : gCons g gs (v :: vs) σ H q := ⟨v, vs, rfl, k⟩
theorem x_gNil {q : L2.St → Hp → Prop} (k : q σ H) : gNil [] σ H q := ⟨rfl, k⟩
theorem x_ret (k : ta σ H D.rt) : tRet ta D σ H := k
theorem x_drop (k : ta σ H fun _ H1 => D.nx σ H1) : tDrop ta D σ H := k
theorem x_par {i j : Nat} {a : TA} (k : a σ H fun vs H1 => ∃ v w, vs = [v, w] ∧ D.nx ((σ.set i (some v)).set j (some w)) H1) : tPar i j a D σ H := k
theorem x_ex_2 {P : V → V → Prop} (k : P v w) : ∃ a b, [v, w] = [a, b] ∧ P a b := ⟨v, w, rfl, k⟩
theorem x_aug {i : Nat} {ti : TIp} (hx : σ[i]? = some (some v)) (k : ta σ H fun y H1 => ti v y H1 fun z H2 => D.nx (σ.set i (some z)) H2) : tAug i ta ti D σ H := ⟨v, hx, k⟩
theorem x_ipI {f : Int → Int → Int} {i j : Int} (k : Q (.int (f i j)) H) : ipI f (.int i) (.int j) H Q := ⟨i, j, rfl, rfl, k⟩
theorem x_augS {to ti te : TE} {tget : V → V → Hp → VK → Prop} {tip : TIp} {tset : TSet} (k : to σ H fun o H1 => ti σ H1 fun i H2 => tget o i H2 fun x H3 => te σ H3 fun y H4 => tip x y H4 fun z H5 => tset o i z H5 fun H6 => D.nx σ H6) : tAugS to ti te tget tip tset D σ H := k
theorem x_gSub {to ti : TE} {s : TSet} {q : L2.St → Hp → Prop} (k : to σ H fun o H1 => ti σ H1 fun i H2 => s o i v H2 fun H3 => q σ H3) : gSub to ti s v σ H q := k
theorem x_setL {xs : List V} {i : Int} {j : Nat} {q : Hp → Prop} (h : H p = some (.lst xs)) (hi : ixN xs.length i = some j) (k : q (upd H p (.lst (xs.set j v)))) : rSetL (.ref p) (.int i) v H q := ⟨p, xs, i, j, rfl, rfl, h, hi, k⟩
theorem at_nat {xs : List V} {i : Int} (h0 : 0 ≤ i) (h : xs[i.toNat]? = some v) : atI xs i = some v := by
  have e : i = ((i.toNat : Nat) : Int) := by omega
  rw [e]
  exact atI_nat h
theorem at_map {ns : List Int} {i : Int} (h0 : 0 ≤ i) (h : i < ((ns.map V.int).length : Int)) : ∃ n, atI (ns.map V.int) i = some (.int n) := by
  rw [List.length_map] at h
  have hl : i.toNat < ns.length := by omega
  exact ⟨ns[i.toNat], at_nat h0 (by simp [hl])⟩
theorem Ex.bagTo {x0 y0 z0 x y z : Int} (hb : H b = some (.lst [.int x0, .int y0, .int z0, .ref c])) (same : ∀ a, a ≠ b → H' a = H a) (hb' : H' b = some (.lst [.int x, .int y, .int z, .ref c])) (hx : 0 ≤ x) (hy : 0 ≤ y) (hy2 : y < 2147483647) (hz : 0 ≤ z) : Ex H H' := by
  refine ⟨fun a o q n => ?_, fun b1 c1 q => ?_⟩
  · by_cases e : a = b
    · subst e
      rw [hb] at q
      exact absurd (Option.some.inj q).symm (n _ _ _ _)
    · rw [same a e]; exact q
  · obtain ⟨x1, y1, z1, ns1, k1, k2, k3⟩ := q
    have n2 : c1 ≠ b := fun e => by
      subst e
      rw [hb] at k2
      exact NB.ints _ _ _ _ (Option.some.inj k2).symm
    by_cases e : b1 = b
    · subst e
      rw [hb] at k1
      have ec : c = c1 := by
        injection k1 with k1
        injection k1 with k1
        exact V.ref.inj (List.cons.inj (List.cons.inj (List.cons.inj (List.cons.inj k1).2).2).2).1
      subst ec
      exact ⟨x, y, z, ns1, hb', by rw [same _ n2]; exact k2, hx, hy, hy2, hz⟩
    · exact ⟨x1, y1, z1, ns1, by rw [same _ e]; exact k1, by rw [same _ n2]; exact k2, k3⟩
-- calls
theorem x_cons {a : TA} {q : List V → Hp → Prop} (k : ta σ H fun x H1 => a σ H1 fun xs H2 => q (x :: xs) H2) : tCons ta a σ H q := k
theorem x_nil {q : List V → Hp → Prop} (k : q [] H) : tNil σ H q := k
theorem x_CB {r : List V → Hp → VK → Prop} {a : TA} (k : a σ H fun vs H1 => r vs H1 Q) : tCB r a σ H Q := k
/-- a promise: what it asks, what it gives -/
def Prom (pre : List V → Hp → Prop) (post : List V → V → Hp → Prop) : Sp := fun vs H Q _ => pre vs H ∧ ∀ v H1, Ex H H1 → post vs v H1 → Q v H1
theorem x_call {pre : List V → Hp → Prop} {post : List V → V → Hp → Prop} {E : XK} {a : TA} (k : a σ H fun vs H1 => pre vs H1 ∧ ∀ v H2, Ex H1 H2 → post vs v H2 → Q v H2) : tCall (Prom pre post) [] E a σ H Q := by
  show a σ H fun vs H1 => Prom pre post (vs ++ []) H1 Q E
  have e : (fun (vs : List V) (H1 : Hp) => Prom pre post (vs ++ []) H1 Q E) = fun vs H1 => pre vs H1 ∧ ∀ v H2, Ex H1 H2 → post vs v H2 → Q v H2 := by
    funext vs H1
    rw [List.append_nil]
    rfl
  rw [e]
  exact k
-- built-ins by name
def rAbs : List V → Hp → VK → Prop := fun xs H Q => ∃ i, xs = [.int i] ∧ Q (.int (if i < 0 then -i else i)) H
def rInt : List V → Hp → VK → Prop := fun xs H Q => (∃ i, xs = [.int i] ∧ Q (.int i) H) ∨ ∃ k, xs = [.bl k] ∧ Q (.int (if k then 1 else 0)) H
def rLen (K : PySem.W.Frag) : List V → Hp → VK → Prop := fun xs H Q => ∃ p ys, xs = [.ref p] ∧ (SqL K H p ys ∨ SqT K H p ys) ∧ Q (.int ys.length) H
theorem x_abs {i : Int} (k : Q (.int (if i < 0 then -i else i)) H) : rAbs [.int i] H Q := ⟨i, rfl, k⟩
theorem x_intI {i : Int} (k : Q (.int i) H) : rInt [.int i] H Q := .inl ⟨i, rfl, k⟩
theorem x_intB {b : Bool} (k : Q (.int (if b then 1 else 0)) H) : rInt [.bl b] H Q := .inr ⟨b, rfl, k⟩
theorem x_lenL {xs : List V} (h : H p = some (.lst xs)) (k : Q (.int xs.length) H) : rLen K [.ref p] H Q := ⟨p, xs, rfl, .inl (SqL.of h), k⟩
theorem x_lenT {xs : List V} (h : H p = some (.tup xs)) (k : Q (.int xs.length) H) : rLen K [.ref p] H Q := ⟨p, xs, rfl, .inr (SqT.of h), k⟩
end
section
variable {X : Cx}
theorem c_abs : CallR X (.builtin "abs") rAbs := call_abs
theorem c_int : CallR X (.type "int") rInt := call_int1
theorem c_len : CallR X (.builtin "len") (rLen X.K) := call_len_seq
/-- xs[i] read for xs[i] op= e -/
theorem get_list : PGet X (rIxL X.K) := by
  intro pins s σ H o i ov iv Q I ro ri h
  obtain ⟨p, xs, n, z, rfl, rfl, hq, he, q⟩ := h
  cases ro
  obtain ⟨t, rfl⟩ := ri
  obtain ⟨its, r, pl, hz⟩ := I.list hq
  obtain ⟨j, h1, h2, h3, h4, h5⟩ := atI_get he
  obtain ⟨w, ew, rw'⟩ := r.get h2
  have hl := r.length
  have hn := line63
  have fin : EP X pins σ Q w s := ⟨z, H, I, rw', q⟩
  by_cases h0 : 0 ≤ n
  · have hj : n.toNat = j := by
      rw [seqIndex_of h0 h5] at h1
      exact Option.some.inj h1
    exact wpAny_getItem_list pl.isList h0 (by omega) (by rw [hj]; simpa using ew) fin
  · have hj : (n + (its.toArray.size : Int)).toNat = j := by
      rw [seqIndex_neg (by omega) h4] at h1
      rw [List.size_toArray, ← hl]
      exact Option.some.inj h1
    exact wpAny_getItem_list_neg pl.isList (by omega) (by rw [List.size_toArray]; omega) (by omega) (by rw [hj]; simpa using ew) fin
end
end Sx

set_option Elab.async false
set_option linter.all false
set_option maxRecDepth 100000
set_option maxHeartbeats 2000000
namespace Sx
open PySem PySem.Spec PyProof.Rows L2

def isI : V → Bool
  | .int _ => true
  | _ => false
def isR : V → Bool
  | .ref _ => true
  | _ => false
theorem NB.at0b {v : V} {xs : List V} (h : isI v = false) : NB (.lst (v :: xs)) := NB.at0 fun i e => by rw [e] at h; cases h
theorem NB.at3b {a b c v : V} {xs : List V} (h : isR v = false) : NB (.lst (a :: b :: c :: v :: xs)) := NB.at3 fun i e => by rw [e] at h; cases h
/-- tuples stay -/
def Tx (H H' : Hp) : Prop := ∀ a xs, H a = some (.tup xs) → H' a = some (.tup xs)
section
variable {H H' H1 H2 : Hp} {p a b c l : Addr} {o u : HO} {K : PySem.W.Frag} {σ : L2.St} {Q : VK} {v w : V} {D : Ends} {t : TT} {ta tb te : TE} {A B : Prop}
theorem Ex.tx (e : Ex H H1) : Tx H H1 := fun a xs h => e.kp a _ h NB.tup
theorem Tx.set {d : Addr} {ys : List V} (h : H d = some (.lst ys)) : Tx H (upd H d o) := fun a xs q => by
  rw [upd_ne (ne_of q h (by intro z; cases z))]
  exact q
theorem Tx.new (h : H d = none) : Tx H (upd H d o) := fun a xs q => by
  rw [upd_ne (ne_of_none q h)]
  exact q
theorem Tx.trans (e : Tx H H1) (f : Tx H1 H2) : Tx H H2 := fun a xs h => f a xs (e a xs h)

/-- a comprehension: I tells the turn and what is made so far -/
theorem lc_any {J : It} {n : Nat} {g : TG} {vs : List Nat} (I : Nat → List V → Hp → Prop) (h0 : I 0 [] H1)
    (mono : ∀ i acc H H', Tx H H' → I i acc H → I i acc H') (nb : ∀ i acc H, I i acc H → NB (.lst acc) ∧ acc.length < sizeLine)
    (go : ∀ i H', i < n → Ex H1 H' → J.go i H') (stop : ∀ H', Ex H1 H' → J.stop n H')
    (turn : ∀ i acc x H' H'', i < n → Ex H1 H' → I i acc H' → J.yld i H' x H'' → ∀ kk : Option V → Hp → Prop, (∀ y H4, Ex H' H4 → I (i + 1) (acc ++ [y]) H4 → kk (some y) H4) → (∀ H4, Ex H' H4 → I (i + 1) acc H4 → kk none H4) →
      g x (wipe σ vs) H'' fun σ2 H2 => wipe σ2 vs = wipe σ vs ∧ t σ2 H2 fun b H3 => if b = true then te σ2 H3 (fun y H4 => kk (some y) H4) else kk none H3)
    (k : ∀ p ys H2, Ex H1 H2 → H1 p = none → H2 p = some (.lst ys) → I n ys H2 → Q (.ref p) H2) :
    ∀ D, H1 D = none → ∃ W : Nat → Nat → Hp → Prop, (∃ m, W 0 m (upd H1 D (.lst []))) ∧ ∀ i m H, W i m H →
      (J.stop i H ∧ Q (.ref D) H) ∨ (J.go i H ∧ ∃ Nx : Hp → Prop, (∀ H', Nx H' → ∃ m', m' < m ∧ W (i + 1) m' H') ∧ ∀ x H', J.yld i H x H' → g x (wipe σ vs) H' fun σ2 H2 => wipe σ2 vs = wipe σ vs ∧ t σ2 H2 fun b H3 =>
        if b = true then te σ2 H3 fun y H4 => ∃ acc, H4 D = some (.lst acc) ∧ acc.length < sizeLine ∧ Nx (upd H4 D (.lst (acc ++ [y]))) else Nx H3) := by
  intro D hD
  refine ⟨fun i m H => m = n - i ∧ i ≤ n ∧ Ex H1 H ∧ ∃ acc, H D = some (.lst acc) ∧ I i acc H, ⟨n, rfl, Nat.zero_le _, Ex.new hD, [], upd_same, mono _ _ _ _ (Tx.new hD) h0⟩, ?_⟩
  rintro i m H ⟨rfl, hi, e, acc, hd, hI⟩
  by_cases hlt : i < n
  · refine .inr ⟨go i H hlt e, fun H' => i + 1 ≤ n ∧ Ex H1 H' ∧ ∃ acc, H' D = some (.lst acc) ∧ I (i + 1) acc H', fun H' q => ⟨n - (i + 1), by omega, rfl, q⟩, fun x H' y => ?_⟩
    have nbA := nb _ _ _ hI
    refine turn i acc x H H' hlt e hI y (fun o H4 => match o with
      | some y => ∃ acc, H4 D = some (.lst acc) ∧ acc.length < sizeLine ∧ (i + 1 ≤ n ∧ Ex H1 (upd H4 D (.lst (acc ++ [y]))) ∧ ∃ acc', upd H4 D (.lst (acc ++ [y])) D = some (.lst acc') ∧ I (i + 1) acc' (upd H4 D (.lst (acc ++ [y]))))
      | none => i + 1 ≤ n ∧ Ex H1 H4 ∧ ∃ acc, H4 D = some (.lst acc) ∧ I (i + 1) acc H4) (fun y H4 e4 q => ?_) (fun H4 e4 q => ?_)
    · have hd4 := e4.kp _ _ hd nbA.1
      exact ⟨acc, hd4, nbA.2, hlt, Ex.mut (e.trans e4) hD, acc ++ [y], upd_same, mono _ _ _ _ (Tx.set hd4) q⟩
    · exact ⟨hlt, e.trans e4, acc, e4.kp _ _ hd nbA.1, q⟩
  · have ei : i = n := by omega
    subst ei
    exact .inl ⟨stop H e, k D acc H e hD hd hI⟩

def LcGo (J : It) (g : TG) (t : TT) (te : TE) (vs : List Nat) (σ : L2.St) (H1 : Hp) (Q : VK) : Prop := ∀ D, H1 D = none → ∃ W : Nat → Nat → Hp → Prop, (∃ m, W 0 m (upd H1 D (.lst []))) ∧ ∀ i m H, W i m H →
      (J.stop i H ∧ Q (.ref D) H) ∨ (J.go i H ∧ ∃ Nx : Hp → Prop, (∀ H', Nx H' → ∃ m', m' < m ∧ W (i + 1) m' H') ∧ ∀ x H', J.yld i H x H' → g x (wipe σ vs) H' fun σ2 H2 => wipe σ2 vs = wipe σ vs ∧ t σ2 H2 fun b H3 =>
        if b = true then te σ2 H3 fun y H4 => ∃ acc, H4 D = some (.lst acc) ∧ acc.length < sizeLine ∧ Nx (upd H4 D (.lst (acc ++ [y]))) else Nx H3)
theorem x_lc {wi : TI} {g : TG} {vs : List Nat} (k : wi σ H fun J H1 => LcGo J g t te vs σ H1 Q) : tLc wi g t te vs σ H Q := k
def R1K (xs : List V) (H1 : Hp) (R : It → Hp → Prop) : Prop := ∃ j : Int, xs = [.int j] ∧ -(2 ^ 62) ≤ j ∧ j < 2 ^ 62 ∧ R (Itr 0 j.toNat) H1
def LK (K : PySem.W.Frag) (x : V) (H1 : Hp) (R : It → Hp → Prop) : Prop := ∃ a, x = .ref a ∧ (∃ xs, SqL K H1 a xs) ∧ R (Itl K a) H1
def ZK (K : PySem.W.Frag) (vs : List V) (H1 : Hp) (R : It → Hp → Prop) : Prop := ∃ (x : Str) (b : Addr) (ys : List V), vs = [.str x, .ref b] ∧ SqT K H1 b ys ∧ R (Zst.ItzS K x b) H1
theorem x_iR1 {a : TA} {R : It → Hp → Prop} (k : a σ H fun xs H1 => R1K xs H1 R) : iRng1 a σ H R := k
theorem x_iL {R : It → Hp → Prop} (k : ta σ H fun x H1 => LK K x H1 R) : iList K ta σ H R := k
theorem x_iZ {a : TA} {R : It → Hp → Prop} (k : a σ H fun xs H1 => ZK K xs H1 R) : Zst.iZipS K a σ H R := k
theorem x_yes {q : Bool → Hp → Prop} (k : q true H) : tYes σ H q := k

theorem lc_rng {m : Int} {j : Nat} {vs : List Nat} (hm : m < 2 ^ 62) (hm0 : -(2 ^ 62) ≤ m) (I : Nat → List V → Hp → Prop) (h0 : I 0 [] H1) (mono : ∀ i acc H H', Tx H H' → I i acc H → I i acc H') (nb : ∀ i acc H, I i acc H → NB (.lst acc) ∧ acc.length < sizeLine)
    (hw : ∀ x, wipe ((wipe σ vs).set j (some x)) vs = wipe σ vs)
    (turn : ∀ (i : Nat) acc H', (i : Int) < m → Ex H1 H' → I i acc H' → ∀ kk : Option V → Hp → Prop, (∀ y H4, Ex H' H4 → I (i + 1) (acc ++ [y]) H4 → kk (some y) H4) → (∀ H4, Ex H' H4 → I (i + 1) acc H4 → kk none H4) →
      t ((wipe σ vs).set j (some (.int (i : Int)))) H' fun b H3 => if b = true then te ((wipe σ vs).set j (some (.int (i : Int)))) H3 (fun y H4 => kk (some y) H4) else kk none H3)
    (k : ∀ p ys H2, Ex H1 H2 → H1 p = none → H2 p = some (.lst ys) → I m.toNat ys H2 → Q (.ref p) H2) : R1K [.int m] H1 fun J H2 => LcGo J (gName j) t te vs σ H2 Q := by
  refine ⟨m, rfl, hm0, hm, lc_any I h0 mono nb (fun i H' hi _ => hi) (fun H' _ => Nat.le_refl _) (fun i acc x H' H'' hi e q y kk k1 k2 => ?_) k⟩
  obtain ⟨rfl, rfl⟩ := y
  have e0 : (0 : Int) + (i : Int) = (i : Int) := Int.zero_add _
  rw [e0]
  exact ⟨hw _, turn i acc _ (by omega) e q kk k1 k2⟩
theorem lc_lst {xs : List V} {j : Nat} {vs : List Nat} (hx : H1 a = some (.lst xs)) (nbx : NB (.lst xs)) (I : Nat → List V → Hp → Prop) (h0 : I 0 [] H1) (mono : ∀ i acc H H', Tx H H' → I i acc H → I i acc H') (nb : ∀ i acc H, I i acc H → NB (.lst acc) ∧ acc.length < sizeLine)
    (hw : ∀ x, wipe ((wipe σ vs).set j (some x)) vs = wipe σ vs)
    (turn : ∀ (i : Nat) x acc H', xs[i]? = some x → Ex H1 H' → I i acc H' → ∀ kk : Option V → Hp → Prop, (∀ y H4, Ex H' H4 → I (i + 1) (acc ++ [y]) H4 → kk (some y) H4) → (∀ H4, Ex H' H4 → I (i + 1) acc H4 → kk none H4) →
      t ((wipe σ vs).set j (some x)) H' fun b H3 => if b = true then te ((wipe σ vs).set j (some x)) H3 (fun y H4 => kk (some y) H4) else kk none H3)
    (k : ∀ p ys H2, Ex H1 H2 → H1 p = none → H2 p = some (.lst ys) → I xs.length ys H2 → Q (.ref p) H2) : LK K (.ref a) H1 fun J H2 => LcGo J (gName j) t te vs σ H2 Q := by
  have hq : ∀ H', Ex H1 H' → SqL K H' a xs := fun H' e => SqL.of (e.kp _ _ hx nbx)
  refine ⟨a, rfl, ⟨xs, SqL.of hx⟩, lc_any (n := xs.length) I h0 mono nb (fun i H' hi e => ⟨xs, xs[i], hq H' e, by simp [hi]⟩) (fun H' e => ⟨xs, hq H' e, Nat.le_refl _⟩) (fun i acc x H' H'' hi e q y kk k1 k2 => ?_) k⟩
  obtain ⟨rfl, y⟩ := y
  exact ⟨hw _, turn i x acc _ (y xs (hq _ e)) e q kk k1 k2⟩
theorem lc_zip {x : Str} {ys : List V} {j1 j2 n : Nat} {vs : List Nat} (hn : (x.cps.size = n ∧ n ≤ ys.length) ∨ (ys.length = n ∧ n ≤ x.cps.size)) (hx : H1 a = some (.tup ys)) (I : Nat → List V → Hp → Prop) (h0 : I 0 [] H1) (mono : ∀ i acc H H', Tx H H' → I i acc H → I i acc H') (nb : ∀ i acc H, I i acc H → NB (.lst acc) ∧ acc.length < sizeLine)
    (hw : ∀ x y, wipe (((wipe σ vs).set j1 (some x)).set j2 (some y)) vs = wipe σ vs)
    (turn : ∀ (i : Nat) c y acc H', x.cps[i]? = some c → ys[i]? = some y → Ex H1 H' → I i acc H' → ∀ kk : Option V → Hp → Prop, (∀ y H4, Ex H' H4 → I (i + 1) (acc ++ [y]) H4 → kk (some y) H4) → (∀ H4, Ex H' H4 → I (i + 1) acc H4 → kk none H4) →
      t (((wipe σ vs).set j1 (some (.str ⟨#[c]⟩))).set j2 (some y)) H' fun b H3 => if b = true then te (((wipe σ vs).set j1 (some (.str ⟨#[c]⟩))).set j2 (some y)) H3 (fun y H4 => kk (some y) H4) else kk none H3)
    (k : ∀ p ys H2, Ex H1 H2 → H1 p = none → H2 p = some (.lst ys) → I n ys H2 → Q (.ref p) H2) : ZK K [.str x, .ref a] H1 fun J H2 => LcGo J (gTup K 2 (gCons (gName j1) (gCons (gName j2) gNil))) t te vs σ H2 Q := by
  have hq : ∀ H', Ex H1 H' → SqT K H' a ys := fun H' e => SqT.of (e.kp _ _ hx NB.tup)
  refine ⟨x, a, ys, rfl, SqT.of hx, lc_any (n := n) I h0 mono nb (fun i H' hi e => ?_) (fun H' e => ⟨ys, hq H' e, hn⟩) (fun i acc v H' H'' hi e q y kk k1 k2 => ?_) k⟩
  · have h1 : i < x.cps.size := by omega
    have h2 : i < ys.length := by omega
    exact ⟨ys, x.cps[i], ys[i], hq H' e, by simp [h1], by simp [h2]⟩
  · obtain ⟨T, c, y, rfl, hT, rfl, hc, hy⟩ := y
    have e2 : Ex H' (upd H' T (.tup [.str ⟨#[c]⟩, y])) := Ex.new hT
    refine ⟨T, _, rfl, SqT.of upd_same, rfl, _, _, rfl, _, _, rfl, rfl, hw _ _, ?_⟩
    exact turn i c y acc _ hc (hy ys (hq _ e)) (e.trans e2) (mono _ _ _ _ e2.tx q) kk (fun y H4 f g => k1 y H4 (e2.trans f) g) (fun H4 f g => k2 H4 (e2.trans f) g)

/-! ### dicts of the module -/
def rNID (K : PySem.W.Frag) (d : Addr) : R2 := fun x y H Q => ∃ (z : Str) (r : Option Value), x = .str z ∧ y = .ref d ∧ PySem.W.nsIn K d z = some r ∧ Q (.bl (!r.isSome)) H
def rIID (K : PySem.W.Frag) (d : Addr) : R2 := fun x y H Q => ∃ (z : Str) (r : Option Value), x = .str z ∧ y = .ref d ∧ PySem.W.nsIn K d z = some r ∧ Q (.bl r.isSome) H
theorem x_NID {d : Addr} {z : Str} {r : Option Value} (h : PySem.W.nsIn K d z = some r) (k : Q (.bl (!r.isSome)) H) : rNID K d (.str z) (.ref d) H Q := ⟨z, r, rfl, rfl, h, k⟩
theorem x_IID {d : Addr} {z : Str} {r : Option Value} (h : PySem.W.nsIn K d z = some r) (k : Q (.bl r.isSome) H) : rIID K d (.str z) (.ref d) H Q := ⟨z, r, rfl, rfl, h, k⟩
theorem x_ixD {w : World} {d : Addr} {z : Str} (h : KDct K w d z v) (k : Q v H) : rIxD K w (.ref d) (.str z) H Q := ⟨d, z, v, rfl, rfl, h, k⟩
theorem kdct_of {w : World} {d : Addr} {es : Array DictEntry} {n : Nat} {z : Str} {u : Value} (D : KDict K w d es n) (h : PySem.W.nsIn K d z = some (some u)) (r : RelV v u) : KDct K w d z v := ⟨es, n, u, D.at_, D.lit, h, r⟩
theorem x_NIDt {d : Addr} {z : Str} (h : PySem.W.nsIn K d z = some none) (k : Q (.bl true) H) : rNID K d (.str z) (.ref d) H Q := ⟨z, none, rfl, rfl, h, k⟩
theorem x_NIDf {d : Addr} {z : Str} {u : Value} (h : PySem.W.nsIn K d z = some (some u)) (k : Q (.bl false) H) : rNID K d (.str z) (.ref d) H Q := ⟨z, some u, rfl, rfl, h, k⟩
theorem x_IIDt {d : Addr} {z : Str} {u : Value} (h : PySem.W.nsIn K d z = some (some u)) (k : Q (.bl true) H) : rIID K d (.str z) (.ref d) H Q := ⟨z, some u, rfl, rfl, h, k⟩
theorem x_IIDf {d : Addr} {z : Str} (h : PySem.W.nsIn K d z = some none) (k : Q (.bl false) H) : rIID K d (.str z) (.ref d) H Q := ⟨z, none, rfl, rfl, h, k⟩
theorem x_ixDs {w : World} {d : Addr} {z y : Str} {es : Array DictEntry} {n : Nat} (D : KDict K w d es n) (h : ∃ t, PySem.W.nsIn K d z = some (some (.str y t))) (k : Q (.str y) H) : rIxD K w (.ref d) (.str z) H Q := by
  obtain ⟨t, h⟩ := h
  exact ⟨d, z, .str y, rfl, rfl, kdct_of (v := .str y) D h ⟨t, rfl⟩, k⟩
/-! ### in -/
def rInS : R2 := fun x y H Q => ∃ i j, x = .str i ∧ y = .str j ∧ Q (.bl (!(Builtin.Str.occurrences j i 0 j.length 1).isEmpty)) H
theorem x_InSt {i j : Str} (h : (Builtin.Str.occurrences j i 0 j.length 1).isEmpty = false) (k : Q (.bl true) H) : rInS (.str i) (.str j) H Q := ⟨i, j, rfl, rfl, by rw [h]; exact k⟩
theorem x_InSf {i j : Str} (h : (Builtin.Str.occurrences j i 0 j.length 1).isEmpty = true) (k : Q (.bl false) H) : rInS (.str i) (.str j) H Q := ⟨i, j, rfl, rfl, by rw [h]; exact k⟩
theorem x_EqSt {i j : Str} (h : i = j) (k : Q (.bl true) H) : rEq (.str i) (.str j) H Q := ⟨rfl, by rw [decide_eq_true (by rw [h])]; exact k⟩
theorem x_EqSf {i j : Str} (h : i ≠ j) (k : Q (.bl false) H) : rEq (.str i) (.str j) H Q := ⟨rfl, by rw [decide_eq_false (fun e => h (V.str.inj e))]; exact k⟩
theorem x_NeSt {i j : Str} (h : i ≠ j) (k : Q (.bl true) H) : rNe (.str i) (.str j) H Q := ⟨rfl, by rw [decide_eq_false (fun e => h (V.str.inj e))]; exact k⟩
theorem x_NeSf {i j : Str} (h : i = j) (k : Q (.bl false) H) : rNe (.str i) (.str j) H Q := ⟨rfl, by rw [decide_eq_true (by rw [h])]; exact k⟩
theorem inV_ints {n : Int} {ns : List Int} : inV (.int n) (ns.map V.int) = decide (n ∈ ns) := by
  unfold inV
  rw [List.any_map]
  rw [Bool.eq_iff_iff, List.any_eq_true, decide_eq_true_eq]
  constructor
  · rintro ⟨m, h1, h2⟩
    have e : m = n := by simpa [eqV] using h2
    exact e ▸ h1
  · intro h
    exact ⟨n, h, by simp [eqV]⟩
theorem flat_ints {ns : List Int} : (ns.map V.int).all flatV = true := by
  rw [List.all_map]
  exact List.all_eq_true.mpr fun _ _ => rfl
theorem x_notInI {n : Int} {ns : List Int} (h : H p = some (.lst (ns.map V.int))) (k : Q (.bl (!decide (n ∈ ns))) H) : rIn K true (.int n) (.ref p) H Q :=
  ⟨p, _, rfl, .inl (SqL.of h), rfl, flat_ints, by rw [if_pos rfl, inV_ints]; exact k⟩
theorem x_inTt {xs : List V} (h : H p = some (.tup xs)) (hv : flatV v = true) (ha : xs.all flatV = true) (e : inV v xs = true) (k : Q (.bl true) H) : rIn K false v (.ref p) H Q := ⟨p, _, rfl, .inr (SqT.of h), hv, ha, by rw [if_neg Bool.false_ne_true, e]; exact k⟩
theorem x_inTf {xs : List V} (h : H p = some (.tup xs)) (hv : flatV v = true) (ha : xs.all flatV = true) (e : inV v xs = false) (k : Q (.bl false) H) : rIn K false v (.ref p) H Q := ⟨p, _, rfl, .inr (SqT.of h), hv, ha, by rw [if_neg Bool.false_ne_true, e]; exact k⟩
/-! ### tuples, lists -/
theorem x_slT {xs : List V} {lo hi : Option Int} (h : H a = some (.tup xs)) (hw : ¬ (HT.sIx xs.length 0 lo = 0 ∧ HT.sIx xs.length xs.length hi = xs.length)) (k : JustNew (.tup (cutV xs lo hi)) H Q) : rSlT K (.ref a) lo hi H Q := ⟨a, xs, rfl, SqT.of h, hw, k⟩
theorem x_catT {xs ys : List V} (h : H a = some (.tup xs)) (h' : H b = some (.tup ys)) (n1 : xs ≠ []) (n2 : ys ≠ []) (l : xs.length + ys.length ≤ sizeLine) (k : JustNew (.tup (xs ++ ys)) H Q) : rCatT K (.ref a) (.ref b) H Q := ⟨a, b, xs, ys, rfl, rfl, SqT.of h, SqT.of h', n1, l, fun e => absurd e n2, fun _ => k⟩
theorem x_cat {xs ys : List V} (h : H a = some (.lst xs)) (h' : H b = some (.lst ys)) (l : xs.length + ys.length ≤ sizeLine) (k : JustNew (.lst (xs ++ ys)) H Q) : rCat (.ref a) (.ref b) H Q := ⟨a, b, xs, ys, rfl, rfl, h, h', l, k⟩
def SortK (ns : List Int) (H : Hp) (Q : VK) : Prop := ∀ (ns' : List Int) (p : Addr), ns'.Perm ns → ns'.Pairwise (· ≤ ·) → H p = none → Q (.ref p) (upd H p (.lst (ns'.map V.int)))
theorem x_sorted {ns : List Int} (h : H a = some (.lst (ns.map V.int))) (l : ns.length < 64) (k : ∀ (ns' : List Int) (p : Addr) (H1 : Hp), ns'.Perm ns → ns'.Pairwise (· ≤ ·) → Ex H H1 → H p = none → H1 p = some (.lst (ns'.map V.int)) → Q (.ref p) H1) : rSorted K [.ref a] H Q :=
  ⟨a, ns, rfl, SqL.of h, l, fun ns' p h1 h2 hp => k ns' p _ h1 h2 (Ex.new hp) hp upd_same⟩
/-! ### loops -/
def ForGo (J : It) (g : TG) (tb : TS) (D : Ends) (σ : L2.St) (H1 : Hp) : Prop := ∃ W : Nat → Nat → L2.St → Hp → Prop, (∃ m, W 0 m σ H1) ∧ ∀ i m σ H, W i m σ H →
      (J.stop i H ∧ D.nx σ H) ∨ (J.go i H ∧ ∃ N : L2.St → Hp → Prop, (∀ σ' H', N σ' H' → ∃ m', m' < m ∧ W (i + 1) m' σ' H') ∧ ∀ v H', J.yld i H v H' → g v σ H' fun σ2 H2 => tb { D with nx := N, ct := N, bk := D.nx } σ2 H2)
theorem x_for {wi : TI} {g : TG} {tb : TS} (k : wi σ H fun J H1 => ForGo J g tb D σ H1) : tFor wi g tb D σ H := k
theorem for_rng {m : Int} {j : Nat} {tb : TS} (hm : m < 2 ^ 62) (hm0 : -(2 ^ 62) ≤ m) (Pv : Nat → L2.St → Hp → Prop) (h0 : Pv 0 σ H1)
    (hs : ∀ (i : Nat) σ H, (i : Int) < m → Pv i σ H → tb { D with nx := Pv (i + 1), ct := Pv (i + 1), bk := D.nx } (σ.set j (some (.int (i : Int)))) H) (hd : ∀ σ H, Pv m.toNat σ H → D.nx σ H) : R1K [.int m] H1 fun J H2 => ForGo J (gName j) tb D σ H2 := by
  refine ⟨m, rfl, hm0, hm, for_range Pv h0 (fun i σ H hi q => ?_) hd⟩
  have e0 : (0 : Int) + (i : Int) = (i : Int) := Int.zero_add _
  show tb { D with nx := Pv (i + 1), ct := Pv (i + 1), bk := D.nx } (σ.set j (some (.int ((0 : Int) + (i : Int))))) H
  rw [e0]
  exact hs i σ H (by omega) q
theorem for_lst {xs : List V} {j : Nat} {tb : TS} (hx : H1 a = some (.lst xs)) (Pv : Nat → L2.St → Hp → Prop) (h0 : Pv 0 σ H1) (hl : ∀ i σ H, i ≤ xs.length → Pv i σ H → H a = some (.lst xs))
    (hs : ∀ (i : Nat) x σ H, xs[i]? = some x → Pv i σ H → tb { D with nx := Pv (i + 1), ct := Pv (i + 1), bk := D.nx } (σ.set j (some x)) H) (hd : ∀ σ H, Pv xs.length σ H → D.nx σ H) : LK K (.ref a) H1 fun J H2 => ForGo J (gName j) tb D σ H2 :=
  ⟨a, rfl, ⟨xs, SqL.of hx⟩, for_list Pv h0 (fun i σ H hi q => SqL.of (hl i σ H hi q)) (fun i x σ H h q => hs i x σ H h q) hd⟩
/-! ### methods -/
theorem x_bm {T : String} {r : V → List V → Hp → VK → Prop} {a : TA} (k : ta σ H fun x H1 => tyV K T x H1 ∧ a σ H1 fun xs H2 => r x xs H2 Q) : tBM K T r ta a σ H Q := k
theorem tyL {xs : List V} (h : H p = some (.lst xs)) : tyV K "list" (.ref p) H := .inl ⟨rfl, _, SqL.of h⟩
def rInsert : V → List V → Hp → VK → Prop := fun x vs H Q => ∃ (l : Addr) (xs : List V) (i : Int) (y : V), x = .ref l ∧ vs = [.int i, y] ∧ H l = some (.lst xs) ∧ xs.length < sizeLine ∧ 0 ≤ i ∧ i < 2 ^ 63 ∧ Q .non (upd H l (.lst (xs.take i.toNat ++ [y] ++ xs.drop i.toNat)))
theorem x_insert {xs : List V} {i : Int} (h : H l = some (.lst xs)) (n : xs.length < sizeLine) (h0 : 0 ≤ i) (h1 : i < 2 ^ 63) (k : Q .non (upd H l (.lst (xs.take i.toNat ++ [v] ++ xs.drop i.toNat)))) : rInsert (.ref l) [.int i, v] H Q := ⟨l, xs, i, v, rfl, rfl, h, n, h0, h1, k⟩
/-! ### list(range(n)) -/
theorem x_lstRg {te : L2.St → Hp → (Int → Int → Hp → Prop) → Prop} (k : te σ H fun a b H1 => RgOk a b ∧ JustNew (.lst (rgV a b)) H1 Q) : tLstRg te σ H Q := k
theorem x_callS {sp : Sp} {E : XK} {a : TA} (k : a σ H fun vs H1 => sp vs H1 Q E) : tCall sp [] E a σ H Q := by
  show a σ H fun vs H1 => sp (vs ++ []) H1 Q E
  have e : (fun (vs : List V) (H1 : Hp) => sp (vs ++ []) H1 Q E) = fun vs H1 => sp vs H1 Q E := by
    funext vs H1
    rw [List.append_nil]
  rw [e]
  exact k
theorem x_gConsE {g : TG} {gs : TGs} {ws vs : List V} {q : L2.St → Hp → Prop} (h : ws = v :: vs) (k : g v σ H fun σ' H' => gs vs σ' H' q) : gCons g gs ws σ H q := by rw [h]; exact x_gCons k
theorem x_gNilE {ws : List V} {q : L2.St → Hp → Prop} (h : ws = []) (k : q σ H) : gNil ws σ H q := by rw [h]; exact x_gNil k
theorem x_iteTe {c : Bool} (h : c = true) (k : A) : if c = true then A else B := by rw [if_pos h]; exact k
theorem x_iteFe {c : Bool} (h : c = false) (k : B) : if c = true then A else B := by rw [if_neg (by rw [h]; exact Bool.false_ne_true)]; exact k
theorem x_rg1 {q : Int → Int → Hp → Prop} (k : ta σ H fun x H1 => ∃ n, x = .int n ∧ q 0 n H1) : tRg1 ta σ H q := k
end
section
variable {X : Cx}
theorem c_notInD {d : Addr} {es : Array DictEntry} {n : Nat} (D : KDict X.K X.w d es n) : OpR X (compareOp .NotIn) (rNID X.K d) := op_notIn_kd D
theorem c_inD {d : Addr} {es : Array DictEntry} {n : Nat} (D : KDict X.K X.w d es n) : OpR X (compareOp .In) (rIID X.K d) := op_in_kd D
theorem pg_tupB {sB : Shared} {HB : Hp} {scope : Scope} {cenv : Env} {fp : List Addr} {es : List Expr} {k : Nat} {t : TGs} {n : Nat} {pos : Pos} (hc : X.calm = true) (h : PGs (X.blk sB HB scope cenv fp) es t)
    (hn : (assignEach es (X.blk sB HB scope cenv fp).env).length = n := by rfl) (hst : (assignEach es (X.blk sB HB scope cenv fp).env).findIdx? (·.1) = none := by rfl) : PG (X.blk sB HB scope cenv fp) (.Tuple es k pos) (gTup X.K n t) := pg_tup (X := X.blk sB HB scope cenv fp) hc h hn hst
theorem c_inS : OpR X (compareOp .In) rInS := op_in_str
theorem c_insert : MtR X "list.insert" rInsert := mt_insert
end
end Sx

set_option Elab.async false
set_option linter.all false
set_option maxRecDepth 100000
set_option maxHeartbeats 2000000
namespace Ow
open PySem PySem.Spec PyProof.Rows L2 ItX

/-! ### len(set(xs)), xs a list of ints -/
def dis (ns : List Int) : Nat := (PyProof.Rows.firstMet (fun i => ns.getD i 0) ns.length).length
def tLenSetI (K : PySem.W.Frag) (ta : TE) : TE := fun σ H Q => ta σ H fun x H1 => ∃ (l : Addr) (ns : List Int), x = .ref l ∧ SqL K H1 l (ns.map V.int) ∧ ns.length ≤ 1000 ∧ Q (.int (dis ns)) H1
section
variable {X : Cx}
theorem pe_lenSetI {a : Expr} {ta : TE} {p p2 q pos : Pos} (hc : X.calm = true) (hg : Gl X "len") (hm : X.mg "len" = none) (hg2 : Gl X "set") (hm2 : X.mg "set" = none) (ha : PE X a ta)
    (na : starEach [a] X.env = (false, eval a X.env) :: starEach [] X.env := by rfl) : PE X (.Call (.Name "len" p) [.Call (.Name "set" p2) [a] [] q] [] pos) (tLenSetI X.K ta) := by
  constructor
  intro pins s σ H Q I h
  refine Call_ (ld_blt I hg hm boot_len (PyProof.Rows.callWith_builtin1 (PyProof.Rows.args_cons ?_ rfl) rfl rfl))
  refine Call_ (ld_blt I hg2 hm2 boot_set (PyProof.Rows.callWith_type1 (PyProof.Rows.args_cons (thn (ha.run pins s σ H _ I h) ?_) na) na rfl))
  rintro v s1 ⟨x, H1, I1, r1, l, ns, rfl, hq, h1, q1⟩
  refine PyProof.Rows.args_nil ?_
  cases r1
  obtain ⟨its, r, pl, hz⟩ := I1.list hq
  have hl : its.toArray.size = ns.length := by rw [List.size_toArray, ← r.length, List.length_map]
  refine PySem.call_set_list (I1.ok.hd hc) pl.isList (by simpa using intsAre_of r) (by rw [hl]; exact Nat.lt_of_le_of_lt (Nat.succ_le_succ h1) (by decide)) fun h' tk hS hk => PyProof.Rows.args_nil ?_
  rw [hl] at hS
  obtain ⟨o, es, ep, t, ho, hex, hd, _, _, _, hf, hn⟩ := hS
  have I2 : Inv X pins σ H1 { s1 with heap := h', toks := tk } := I1.kept fun b o e => hk b o (Heap.lt_size e) e
  have hle : es.size ≤ 100000 := by
    rw [hn]
    refine Nat.le_trans (PyProof.Rows.firstMet_length_le _ _) (by omega)
  exact call_len_set ho hex hd hf (by omega) ⟨.int (dis ns), H1, I2.tok _, ⟨_, by rw [hn]; rfl⟩, q1⟩
end

/-! ### the iterator of a tuple -/
def itT (l : Addr) : Obj := { cls := .type "tuple_iterator", data := .fields #[.ref l, .int 0 0] }
def ItT (l it : Addr) : HO := .ext fun h => h.get? it = some (itT l)
theorem itT_ok {P : Program} {w : World} {H : Hp} {h : Heap} {l it : Addr} (e : h.get? it = some (itT l)) : ObjOk P w H h it (ItT l it) := ⟨e, ⟨_, e⟩, fun _ _ q k => k _ q⟩
def rIterT (K : PySem.W.Frag) (n : Nat) : List V → Hp → VK → Prop := fun xs H Q => ∃ (l : Addr) (zs : List V), xs = [.ref l] ∧ SqT K H l zs ∧ ∀ it, H it = none → n ≤ it → Q (.ref it) (upd H it (ItT l it))
theorem iter_tup {prog : Program} {w : World} {A : Around} {E : Value → Shared → Prop} {s : Shared} {l : Addr} {items : Array Value} {Q : Value → Shared → Prop} (hl : s.heap.IsTuple l items) (h : Q (.ref s.heap.objs.size) { s with heap := s.heap.push (itT l) }) :
    wpAny (model prog w) A (call (.builtin "iter") [.ref l]) Q E s := by
  refine Calls.call_function_entry (by decide +kernel) (by decide +kernel) PySem.W.kdk_entry_iter (PySem.W.kdk_args_iter _) ?_
  unfold Builtin.«iter»
  refine wpAny_bind (m := someArgs "iter" 1 2 _) (wpAny_of_eq (a := [Value.ref l]) (by first | rfl | kernel_rfl!) ?_)
  show wpAny _ _ (pyIter (.ref l) >>= _) _ _ _
  exact wpAny_bind (wpAny_pyIter_tuple hl (wpAny_pure ⟨_, rfl, h⟩))
section
variable {X : Cx}
theorem call_iterT : CallR X (.builtin "iter") (rIterT X.K X.s_0.heap.objs.size) := by
  rintro pins s σ H xs us Q I r ⟨l, zs, rfl, hq, q⟩
  obtain ⟨u, rfl, ru⟩ := vals1 r
  cases ru
  obtain ⟨its, rv, p, hz⟩ := I.tuple hq
  refine iter_tup (show s.heap.IsTuple l its.toArray from p) ?_
  exact ⟨.ref s.heap.objs.size, _, I.laid (t' := s.toks) (fun b u e => Heap.get?_push_of_some _ e) (Nat.le_refl _) (itT_ok (Heap.get?_push_size _ rfl)), rfl, q _ (I.hok.fresh (Nat.le_refl _)) I.sz⟩
end

/-- a def called at ONE state: what its body's reading ends in may speak of that state -/
theorem fn_at {CX : CXT} {P : Program} {w : World} {K : PySem.W.Frag} {mg : Str → Option Value} {base : Heap} {k : Nat} {f : Addr} {x qual : Str} {st : Stmt} {fd : FuncData} {N ps : List Str} (F : Fun K x qual st f fd) (S : FnScope N ps (defScope st))
    {A : Around} {outer : List Env} {s : Shared} {H : Hp} {args : Args} {us : List Value} {vs : List V} {Q : VK} {E : XK} (hl : vs.length = ps.length) (hr : Room (k + 1) A) (e0 : Env0 P w K mg base A outer s H) (hb : BindsTo s fd args (ps.zip us)) (r : Vals vs us)
    (hbody : ∀ cdv, ∃ t, PSs (cxOf CX P w K mg base N qual (defScope st) f cdv A outer s H E) (defBody st) t ∧ t { nx := fun _ H' => Q .non H', rt := Q } (start N vs) H) :
    codeAny (model P w) A (.call (.ref f) args) (CR CX outer P w H s Q E) s := by
  obtain ⟨oc, od, kV, doc, pm, an, cdv, ct, osl, rfl, lk, hcd⟩ := F.ex
  have sub : ∀ b o, base.get? b = some o → s.heap.get? b = some o := fun b o e => (e0.bs b o e).1
  have KS := e0.mod.kin.keeps sub
  refine codeAny_call_function hr.depth (KS _ _ lk) rfl S.co S.gen rfl (PySem.W.codeRec_of KS hcd) (hb _ _ _ _ ?_)
  refine wpAny_newFunctionEnv_cells S.kind (fun y hy => ?_) fun env he sB call => ?_
  · have m := S.par y.1 (List.of_mem_zip (show (y.1, y.2) ∈ _ from hy)).1
    exact m.imp id fun q => ⟨q, PySem.W.cellsFrom_some _ _ _ (.inl q)⟩
  · subst he
    obtain ⟨t, ht, hq⟩ := hbody cdv
    refine ⟨(e0.mod.nolimit.keeps sub).keeps call.toInCall.keep, codeAny_func (wpAny_mono (ht.run [] sB _ H _ (inv_start S hr.hd e0 hl r call) hq) (fun way sE z => ?_) fun _ _ z => z)⟩
    match way, z with
    | .ret _, ⟨v, _, H', J, rv, q⟩ => exact ⟨v, H', J.os, J.bare, J.base, J.hok, rv, q⟩
    | .next, ⟨_, H', J, q⟩ => exact ⟨.non, H', J.os, J.bare, J.base, J.hok, rfl, q⟩
    | .brk, ⟨_, _, _, q⟩ => exact q.elim
    | .cont, ⟨_, _, _, q⟩ => exact q.elim

/-! ### for x in o, o of a class whose __iter__ hands a tuple's iterator out -/
/-- a def of one parameter (st, at fi), asked for an object of the class, hands out the iterator of the tuple that its field holds, young at that call -/
def ItDef (P : Program) (w : World) (K : PySem.W.Frag) (mg : Str → Option Value) (base : Heap) (k : Nat) (C fi : Addr) (fld qual : Str) (st : Stmt) (N : List Str) : Prop :=
  ∀ (cdv : Value) (A : Around) (outer : List Env) (s : Shared) (H : Hp) (E : XK) (a dx : Addr) (fs : List (Str × V)) (l : Addr) (zs : List V) (Q : VK), Room k (A.deeper (envOfC qual (defScope st) s.heap.objs.size fi cdv)) →
    H a = some (.ins C dx fs) → fs.lookup fld = some (.ref l) → SqT K H l zs → (∀ it, H it = none → s.heap.objs.size ≤ it → Q (.ref it) (upd H it (ItT l it))) →
      ∃ t, PSs (cxOf CX0 P w K mg base N qual (defScope st) fi cdv A outer s H E).nox (defBody st) t ∧ t { nx := fun _ H' => Q .non H', rt := Q } (start N [.ref a]) H
def iOwnT (K : PySem.W.Frag) (C : Addr) (fld : Str) (ta : TE) : TI := fun σ H R => ta σ H fun x H1 => ∃ (a dx : Addr) (fs : List (Str × V)) (l : Addr) (zs : List V), x = .ref a ∧ H1 a = some (.ins C dx fs) ∧ fs.lookup fld = some (.ref l) ∧ SqT K H1 l zs ∧ R (Itt K l) H1
section
variable {X : Cx} {k : Nat} {C fi : Addr} {fld x qual p1 : Str} {st : Stmt} {N : List Str} {fd : FuncData} {tg e : Expr} {ta : TE}
theorem pi_own (he : PE X e ta) (F : Fun X.K x qual st fi fd) (S : FnScope N [p1] (defScope st)) (bI : Binds X.K fd [p1] []) (D : ItDef X.prog X.w X.K X.mg X.base k C fi fld qual st N) (hr : Room (k + 1) X.A) (hx : Passes CX0 X fun _ _ _ => False)
    (hit : PySem.W.findIn X.K (.ref C) "__iter__" = some (some (.ref fi))) (hitF : PySem.W.isFn X.K (.ref fi) = true) : PI X tg e (iOwnT X.K C fld ta) := by
  refine ⟨fun pins s σ H R I h => thn (he.run pins s σ H _ I h) fun v s1 ⟨y, H1, I1, r1, a, dx, fs, l, zs, ey, ea, ef, hz, q⟩ => ?_⟩
  subst ey
  cases r1
  obtain ⟨mA, J, _⟩ := ins_get I1.hok ea
  obtain ⟨od, J, _⟩ := J.look
  obtain ⟨m, hF⟩ := I1.fr
  have one : Vals [V.ref a] [Value.ref a] := .cons rfl .nil
  have bb : BindsTo s1 fd ⟨[.ref a], []⟩ ([p1].zip [Value.ref a]) := by
    have b := bI s1 [.ref a] I1.kIn rfl
    simpa using b
  have go := fn_at (CX := CX0) (E := fun _ _ _ => False) (Q := fun v H' => ∃ it, v = .ref it ∧ H1 it = none ∧ s1.heap.objs.size ≤ it ∧ H' = upd H1 it (ItT l it)) F S (vs := [.ref a]) rfl hr I1.env0 bb one fun cdv => by
    obtain ⟨t, pt, qt⟩ := D cdv X.A X.stack s1 H1 (fun _ _ _ => False) a dx fs l zs (fun v H' => ∃ it, v = .ref it ∧ H1 it = none ∧ s1.heap.objs.size ≤ it ∧ H' = upd H1 it (ItT l it)) (hr.deeper _) ea ef hz fun it n o => ⟨it, rfl, n, o, rfl⟩
    exact ⟨t, pt.nox, qt⟩
  refine PySem.W.owit_iter hF I1.ok.mod.kin J hit hitF (wpAny_call (codeAny_mono go fun r s2 hq => ?_))
  cases r with
  | error er => exact hx pins σ H1 s1 er s2 I1 hq
  | ok fl =>
    cases fl with
    | next => exact False.elim hq
    | brk => exact False.elim hq
    | cont => exact False.elim hq
    | ret u =>
      obtain ⟨_, _, I2, rv, it, rfl, en, old, rfl⟩ := I1.after hq
      cases rv
      have g : s2.heap.get? it = some (itT l) := (I2.hok it (ItT l it) upd_same).1
      have hT : s2.TypeIs (.ref it) "tuple_iterator" := ⟨_, g, rfl⟩
      have e2 : dropH (upd H1 it (ItT l it)) it = H1 := dropH_upd en
      have d := inv_drop I2 (upd_same : upd H1 it (ItT l it) it = some (ItT l it))
      have f := inv_fp I2 (upd_same : upd H1 it (ItT l it) it = some (ItT l it)) (Nat.le_trans I1.sz old)
      rw [e2] at d f
      refine wpAny_specialOf hT PySem.F.slot_tuple_iterator_next.lookup ?_
      refine ⟨it, [it], _, _, H1, rfl, d, turn_tuple l it, ⟨_, g, rfl, rfl⟩, fun b hb => ?_, q⟩
      have e : b = it := by simpa using hb
      rw [e]
      exact f
end
end Ow

set_option Elab.async false
set_option linter.all false
set_option maxRecDepth 100000
set_option maxHeartbeats 2000000
namespace Sx
open PySem PySem.Spec PyProof.Rows L2
section
variable {H H' H1 H2 : Hp} {p a b c l : Addr} {o u : HO} {K : PySem.W.Frag} {σ : L2.St} {Q : VK} {v w : V} {D : Ends} {t : TT} {ta tb te : TE} {A B : Prop}
theorem x_iteDt {i j : Int} (h : decide (i = j) = true) (k : A) : if decide (i = j) = true then A else B := by rw [if_pos h]; exact k
theorem x_iteDf {i j : Int} (h : decide (i = j) = false) (k : B) : if decide (i = j) = true then A else B := by rw [if_neg (by rw [h]; exact Bool.false_ne_true)]; exact k
theorem x_iteNt {i j : Int} (h : decide (i = j) = false) (k : A) : if (!decide (i = j)) = true then A else B := by rw [h]; exact x_iteT k
theorem x_iteNf {i j : Int} (h : decide (i = j) = true) (k : B) : if (!decide (i = j)) = true then A else B := by rw [h]; exact x_iteF k
/-! ### isinstance -/
theorem x_isiI {i : Int} {n : String} {r : Bool} (h : kitB "int" n = some r) (k : Q (.bl r) H) : rIsi K [.int i, .ty n] H Q := ⟨_, _, _, _, r, rfl, .ty n, .base (.int i), kit_ty h, k⟩
theorem x_isiS {x : Str} {n : String} {r : Bool} (h : kitB "str" n = some r) (k : Q (.bl r) H) : rIsi K [.str x, .ty n] H Q := ⟨_, _, _, _, r, rfl, .ty n, .base (.str x), kit_ty h, k⟩
theorem x_isiB {x : Bool} {n : String} {r : Bool} (h : kitB "bool" n = some r) (k : Q (.bl r) H) : rIsi K [.bl x, .ty n] H Q := ⟨_, _, _, _, r, rfl, .ty n, .base (.bl x), kit_ty h, k⟩
theorem x_isiT {xs : List V} {n : String} {r : Bool} (hp : H p = some (.tup xs)) (h : kitB "tuple" n = some r) (k : Q (.bl r) H) : rIsi K [.ref p, .ty n] H Q := ⟨_, _, _, _, r, rfl, .ty n, .base (.tup hp), kit_ty h, k⟩
theorem x_isiL {xs : List V} {n : String} {r : Bool} (hp : H p = some (.lst xs)) (h : kitB "list" n = some r) (k : Q (.bl r) H) : rIsi K [.ref p, .ty n] H Q := ⟨_, _, _, _, r, rfl, .ty n, .base (.lst hp), kit_ty h, k⟩
/-- isinstance(a list or a tuple, (list, tuple)) -/
theorem kit_lt : PySem.W.kitAny K (.type "list") [.type "list", .type "tuple"] = some true := kitAny_cons (b := true) (kit_ty (by decide +kernel)) (fun h => nomatch h) (fun _ => rfl)
theorem kit_tt : PySem.W.kitAny K (.type "tuple") [.type "list", .type "tuple"] = some true := kitAny_cons (b := false) (kit_ty (by decide +kernel)) (fun _ => kitAny_cons (b := true) (kit_ty (by decide +kernel)) (fun h => nomatch h) (fun _ => rfl)) (fun h => nomatch h)
theorem x_isi2L {xs : List V} (hp : H p = some (.lst xs)) (hl : H l = some (.tup [.ty "list", .ty "tuple"])) (k : Q (.bl true) H) : rIsiT K [.ref p, .ref l] H Q :=
  ⟨_, l, _, _, _, true, rfl, hl, .cons (.ty _) (.cons (.ty _) .nil), .base (.lst hp), kit_lt, k⟩
theorem x_isi2T {xs : List V} (hp : H p = some (.tup xs)) (hl : H l = some (.tup [.ty "list", .ty "tuple"])) (k : Q (.bl true) H) : rIsiT K [.ref p, .ref l] H Q :=
  ⟨_, l, _, _, _, true, rfl, hl, .cons (.ty _) (.cons (.ty _) .nil), .base (.tup hp), kit_tt, k⟩
/-! ### all, tuple, len -/
theorem x_all {bs : List Bool} (h : H p = some (.lst (bs.map V.bl))) (k : Q (.bl (bs.all id)) H) : rAll K [.ref p] H Q := ⟨p, bs, rfl, SqL.of h, k⟩
theorem x_allT {n : Nat} (h : H p = some (.lst (List.replicate n (.bl true)))) (k : Q (.bl true) H) : rAll K [.ref p] H Q := by
  refine ⟨p, List.replicate n true, rfl, SqL.of (by rw [h, List.map_replicate]), ?_⟩
  rw [show (List.replicate n true).all id = true by simp]
  exact k
def rTupOf (K : PySem.W.Frag) : List V → Hp → VK → Prop := fun xs H Q => ∃ p ys, xs = [.ref p] ∧ ((SqL K H p ys ∧ ∀ l, H l = none → Q (.ref l) (upd H l (.tup ys))) ∨ (SqT K H p ys ∧ Q (.ref p) H))
theorem x_tupOfL {xs : List V} (h : H p = some (.lst xs)) (k : JustNew (.tup xs) H Q) : rTupOf K [.ref p] H Q := ⟨p, xs, rfl, .inl ⟨SqL.of h, k⟩⟩
theorem x_tupOfT {xs : List V} (h : H p = some (.tup xs)) (k : Q (.ref p) H) : rTupOf K [.ref p] H Q := ⟨p, xs, rfl, .inr ⟨SqT.of h, k⟩⟩
def rLenS : List V → Hp → VK → Prop := fun xs H Q => ∃ z, xs = [.str z] ∧ z.length ≤ sizeLine ∧ Q (.int z.length) H
theorem x_lenS {z : Str} (h : z.length ≤ sizeLine) (k : Q (.int z.length) H) : rLenS [.str z] H Q := ⟨z, rfl, h, k⟩
def LenSetK (K : PySem.W.Frag) (x : V) (H1 : Hp) (Q : VK) : Prop := ∃ (l : Addr) (ns : List Int), x = .ref l ∧ SqL K H1 l (ns.map V.int) ∧ ns.length ≤ 1000 ∧ Q (.int (Ow.dis ns)) H1
theorem x_lenSet (k : ta σ H fun x H1 => LenSetK K x H1 Q) : Ow.tLenSetI K ta σ H Q := k
theorem x_lenSetK {ns : List Int} (h : H l = some (.lst (ns.map V.int))) (hl : ns.length ≤ 1000) (k : Q (.int (Ow.dis ns)) H) : LenSetK K (.ref l) H Q := ⟨l, ns, rfl, SqL.of h, hl, k⟩
end
section
variable {X : Cx}
theorem c_tupOf : CallR X (.type "tuple") (rTupOf X.K) := call_tuple_of
theorem c_lenS : CallR X (.builtin "len") rLenS := call_len_str
end
section
variable {H H1 : Hp} {b a : Addr} {K : PySem.W.Frag} {σ : L2.St} {Q : VK} {te : TE}
theorem NB.bls {bs : List Bool} : NB (.lst (bs.map V.bl)) := by
  cases bs with
  | nil => exact NB.len (by decide)
  | cons x xs => exact NB.at0b rfl
/-- a comprehension over zip(a text, a tuple of ints), by what one turn gives -/
theorem zip_gen {x : Str} {ys : List Int} {f : Nat → Int → V} {j1 j2 : Nat} {vs : List Nat} (hx : H1 b = some (.tup (ys.map V.int))) (hn : x.cps.size = ys.length) (h4 : ys.length ≤ 1000)
    (hnb : ∀ i, NB (.lst ((List.zipWith f x.cps.toList ys).take i))) (hw : ∀ u v, wipe (((wipe σ vs).set j1 (some u)).set j2 (some v)) vs = wipe σ vs)
    (hte : ∀ (i c : Nat) (y : Int) (H' : Hp) (Q' : VK), x.cps.toList[i]? = some c → ys[i]? = some y → Q' (f c y) H' → te (((wipe σ vs).set j1 (some (.str ⟨#[c]⟩))).set j2 (some (.int y))) H' Q')
    (k : ∀ p H2, Ex H1 H2 → H1 p = none → H2 p = some (.lst (List.zipWith f x.cps.toList ys)) → Q (.ref p) H2) :
    ZK K [.str x, .ref b] H1 fun J H2 => LcGo J (gTup K 2 (gCons (gName j1) (gCons (gName j2) gNil))) tYes te vs σ H2 Q := by
  have hz : (List.zipWith f x.cps.toList ys).length = ys.length := by rw [List.length_zipWith, Array.length_toList, hn, Nat.min_self]
  refine lc_zip (n := ys.length) (.inl ⟨hn, by rw [List.length_map]; exact Nat.le_refl _⟩) hx (fun i acc _ => acc = (List.zipWith f x.cps.toList ys).take i) (by rw [List.take_zero]) (fun _ _ _ _ _ h => h) (fun i acc _ h => ?_) hw (fun i c y acc H' hc hy e hI kk k1 k2 => ?_) (fun p zs H2 e hp hzs hI => ?_)
  · subst h
    refine ⟨hnb i, Nat.lt_of_le_of_lt (Nat.le_trans (List.length_take_le' _ _) (by rw [hz]; exact h4)) (by decide)⟩
  · rw [List.getElem?_map] at hy
    cases hy' : ys[i]? with
    | none => rw [hy'] at hy; cases hy
    | some n =>
      rw [hy'] at hy
      have en : V.int n = y := Option.some.inj hy
      subst en
      have hc' : x.cps.toList[i]? = some c := by simpa using hc
      refine x_yes (x_iteT (hte i c n H' _ hc' hy' (k1 _ _ (Ex.refl _) ?_)))
      rw [List.take_add_one, hI]
      congr 1
      rw [List.getElem?_zipWith, hc', hy']
      rfl
  · refine k p H2 e hp ?_
    rw [hzs, hI, ← hz, List.take_length]
theorem x_catT0 {xs : List V} (h : H a = some (.tup xs)) (h' : H b = some (.tup [])) (n1 : xs ≠ []) (l : xs.length ≤ sizeLine) (k : Q (.ref a) H) : rCatT K (.ref a) (.ref b) H Q := ⟨a, b, xs, [], rfl, rfl, SqT.of h, SqT.of h', n1, l, fun _ => k, fun e => absurd rfl e⟩
end
/-- a list without repetition has as many different ones as it is long -/
theorem step_new {ns : List Int} {v : Int} (h : v ∉ ns) : step_dedup ns v = ns ++ [v] := by
  unfold step_dedup
  rw [if_neg]
  intro e
  obtain ⟨x, hx, q⟩ := List.any_eq_true.mp e
  have : x = v := by simpa using q
  exact h (this ▸ hx)
theorem fold_new : ∀ (ns acc : List Int), (acc ++ ns).Nodup → ns.foldl step_dedup acc = acc ++ ns
  | [], acc, _ => (List.append_nil acc).symm
  | n :: ns, acc, h => by
    have h2 : n ∉ acc := fun q => by
      have := (List.nodup_append.mp h).2.2 n q n (by simp)
      exact this rfl
    rw [List.foldl_cons, step_new h2, fold_new ns (acc ++ [n]) (by rw [List.append_assoc]; exact h), List.append_assoc]
    rfl
theorem dis_nodup {ns : List Int} (h : ns.Nodup) : Ow.dis ns = ns.length := by
  unfold Ow.dis firstMet
  have e : (List.range ns.length).map (fun i => ns.getD i 0) = ns := by
    apply List.ext_getElem
    · simp
    · intro i h1 h2
      simp at h1
      simp [h1]
  rw [e, fold_new ns [] h, List.nil_append]
theorem x_lenSetN {H : Hp} {K : PySem.W.Frag} {Q : VK} {l : Addr} {ns m : List Int} (h : H l = some (.lst (ns.map V.int))) (pm : ns.Perm m) (nd : m.Nodup) (hl : m.length ≤ 1000) (k : Q (.int ns.length) H) : LenSetK K (.ref l) H Q :=
  x_lenSetK h (by rw [pm.length_eq]; exact hl) (by rw [dis_nodup (pm.nodup_iff.mpr nd)]; exact k)
end Sx

set_option Elab.async false
set_option linter.all false
set_option maxRecDepth 100000
set_option maxHeartbeats 2000000
namespace Ow
open PySem PySem.Spec PyProof.Rows L2 ItX

/-! ### promises of defs that are called where no repr is under way -/
structure FnG (P : Program) (w : World) (K : PySem.W.Frag) (mg : Str → Option Value) (base : Heap) (CX : CXT) (k : Nat) (f : Addr) (fd : FuncData) (ps : List Str) (sp : Sp) : Prop where
  same : ∀ vs H Q E, sp vs H Q E → vs.length = ps.length
  go : ∀ (A : Around) (outer : List Env) (s : Shared) (H : Hp) (args : Args) (us : List Value) (vs : List V) (Q : VK) (E : XK), A.guards = some [] → Room k A → Env0 P w K mg base A outer s H →
    BindsTo s fd args (ps.zip us) → Vals vs us → sp vs H Q E → codeAny (model P w) A (.call (.ref f) args) (CR CX outer P w H s Q E) s
section
variable {P : Program} {w : World} {K : PySem.W.Frag} {mg : Str → Option Value} {base : Heap} {CX : CXT} {k : Nat} {f : Addr} {fd : FuncData} {ps N : List Str} {sp : Sp} {x qual : Str} {st : Stmt}
theorem fnG_of (F : Fun K x qual st f fd) (S : FnScope N ps (defScope st)) (same : ∀ vs H Q E, sp vs H Q E → vs.length = ps.length)
    (body : ∀ (cdv : Value) (A : Around) (outer : List Env) (s : Shared) (H : Hp) (vs : List V) (Q : VK) (E : XK), A.guards = some [] → Room k (A.deeper (envOfC qual (defScope st) s.heap.objs.size f cdv)) → sp vs H Q E →
      ∃ t, PSs (cxOf CX0 P w K mg base N qual (defScope st) f cdv A outer s H E).nox (defBody st) t ∧ t { nx := fun _ H' => Q .non H', rt := Q } (start N vs) H) : FnG P w K mg base CX0 (k + 1) f fd ps sp :=
  ⟨same, fun A outer s H args us vs Q E hg hr e0 hb r h => fn_at F S (same _ _ _ _ h) hr e0 hb r fun cdv => by
    obtain ⟨t, p, q⟩ := body cdv A outer s H vs Q E hg (hr.deeper _) h
    exact ⟨t, p.nox, q⟩⟩
theorem FnG.up {j : Nat} (F : FnG P w K mg base CX j f fd ps sp) (h : j ≤ k) : FnG P w K mg base CX k f fd ps sp := ⟨F.same, fun A outer s H args us vs Q E hg hr => F.go A outer s H args us vs Q E hg (hr.mono h)⟩
theorem FnOk.g (F : FnOk P w K mg base CX k f fd ps sp) : FnG P w K mg base CX k f fd ps sp := ⟨F.len, fun A outer s H args us vs Q E _ => F.run A outer s H args us vs Q E⟩
end
section
variable {X : Cx} {CX : CXT} {k : Nat} {f : Addr} {fd : FuncData} {ps : List Str} {sp : Sp} {dvs : List V} {ds : List Value} {E : XK} {x : Str} {p pos : Pos} {e : Expr} {es : List Expr} {t : TA}
theorem go_fnG {pins : List (Addr × Obj)} {σ : L2.St} {H : Hp} {s : Shared} {Q : VK} {us : List Value} {vs : List V} (hG : X.A.guards = some []) (F : FnG X.prog X.w X.K X.mg X.base CX k f fd ps sp) (hr : Room k X.A) (hb : Binds X.K fd ps ds) (hd : Vals dvs ds)
    (hx : Passes CX X E) (I : Inv X pins σ H s) (r : Vals vs us) (h : sp (vs ++ dvs) H Q E) : wpAny (model X.prog X.w) X.A (call (.ref f) us) (EP X pins σ Q) X.xe s := by
  have both : Vals (vs ++ dvs) (us ++ ds) := r.append hd
  have bb := hb s us I.kIn (both.length.symm.trans (F.same _ _ _ _ h))
  refine wpAny_call (codeAny_mono (F.go X.A X.stack s H ⟨us, []⟩ _ _ Q E hG hr I.env0 bb both h) fun way sE z => ?_)
  match way, z with
  | .error er, z => exact hx pins σ H s er sE I z
  | .ok (.ret u), z => exact I.after z
theorem pe_callG (hG : X.A.guards = some []) (F : FnG X.prog X.w X.K X.mg X.base CX k f fd ps sp) (hr : Room k X.A) (hg : Gl X x) (hm : X.mg x = some (.ref f)) (hk : PySem.W.keepIn X.K (.ref f) = true) (hb : Binds X.K fd ps ds) (hd : Vals dvs ds) (hx : Passes CX X E)
    (ha : PA X (e :: es) t) (nd : (x == ("__debug__" : Str)) = false := by decide) (h1 : starEach (e :: es) X.env = (false, eval e X.env) :: starEach es X.env := by rfl) (h2 : (backTo pos (starEach es X.env)).any (·.1) = false := by rfl) :
    PE X (.Call (.Name x p) (e :: es) [] pos) (tCall sp dvs E t) := by
  constructor
  intro pins s σ H Q I h
  refine wpAny_Call_Name_kw (ld_glob I hg hm ?_ nd)
  have args := ha.run pos pins s σ H _ I h
  refine PySem.W.callWith_K (h₀ := X.base) I.ok.mod.kin hk (thn args ?_) h1 h2
  rintro us s1 ⟨vs, H1, I1, r1, q1⟩
  exact ⟨I1.kIn, go_fnG hG F hr hb hd hx I1 r1 q1⟩
/-! ### repr -/
structure Shw (d : PyData) : Prop where
  able : d.showable = true
  nodict : d.hasDict = false
  short : d.leavesShort 60 = true
  bulk : d.bulk ≤ 100000
  deep : d.depth ≤ 40
theorem Shw.fits {d : PyData} (h : Shw d) : d.shown.length ≤ sizeLine := by
  have a := PyData.shown_le_bulk 60 (by decide) d h.short
  have b := h.bulk
  exact Nat.le_trans a (Nat.le_trans (show _ ≤ 62 * 100000 + 60 by omega) (by decide))
def rRepr (K : PySem.W.Frag) : List V → Hp → VK → Prop := fun xs H Q => ∃ (v : V) (d : PyData), xs = [v] ∧ Dp K H v d ∧ Shw d ∧ Q (.str d.shown) H
theorem call_repr (hG : X.A.guards = some []) (hu : X.A.units + 64 < cLine) : CallR X (.builtin "repr") (rRepr X.K) := by
  rintro pins s σ H xs us Q I r ⟨v, d, rfl, hd, hs, q⟩
  obtain ⟨u, rfl, ru⟩ := vals1 r
  obtain ⟨as, rd⟩ := Dp.reads I d v u hd ru
  have sz := hs.fits
  have dp := hs.deep
  cases rd with
  | none => exact PySem.P.repr_of_none ⟨.str _, H, I.tok _, ⟨_, rfl⟩, by rw [PyData.shown_none] at q; exact q⟩
  | bool b => exact PySem.P.repr_of_bool ⟨.str _, H, I.tok _, ⟨_, rfl⟩, by rw [PyData.shown_bool] at q; exact q⟩
  | int i t => exact PySem.P.repr_of_int (by simpa [PyData.showable] using hs.able) ⟨.str _, H, I.tok _, ⟨_, rfl⟩, by rw [PyData.shown_int] at q; exact q⟩
  | str z t => exact PySem.P.repr_of_str ⟨.str _, H, I.tok _, ⟨_, rfl⟩, by rw [PyData.shown_str] at q; exact q⟩ (by rw [PyData.shown_str] at sz; exact sz)
  | list h1 h2 h3 h4 =>
    exact PySem.repr_of_reads' (.list h1 h2 h3 h4) hs.able (PyData.noDict_hsm hs.nodict) hG (by omega) (fun b o e => e) (fun h' u tk keep => ⟨.str _, H, I.kept keep, ⟨_, rfl⟩, q⟩) sz
  | tuple h1 h2 h3 h4 =>
    exact PySem.repr_of_reads' (.tuple h1 h2 h3 h4) hs.able (PyData.noDict_hsm hs.nodict) hG (by omega) (fun b o e => e) (fun h' u tk keep => ⟨.str _, H, I.kept keep, ⟨_, rfl⟩, q⟩) sz
  | dict h1 h2 h3 h4 h5 => cases hd
end
/-! ### the end of a law that shows data: it is called where no repr is under way -/
section
variable {P : Program} {w : World} {K : PySem.W.Frag} {mg mb : Str → Option Value} {k : Nat} {fa a : Addr} {fd : FuncData} {x : Str} {sp : Sp} {s : Shared} {vs : List Value} {ns : List Int}
/-- from an abstract heap H that tracks at most the script -/
theorem law_from {H : Hp} (KX : K.In s.heap) (hns : s.heap.Ns mainGlobals mg) (hb : s.heap.Ns builtinsNs mb) (hbb : ∀ x : Str, x ≠ "__name__" → mb x = bootBuiltins x) (lim : s.heap.NoLimit) (hg : s.gens = #[])
    (at_ : s.heap.get? a = some { cls := .type "list", data := .seq vs.toArray }) (hr : Room k callerA)
    (F : ∀ base : Heap, K.In base → base.Ns mainGlobals mg → FnG P w K mg base CX0 k fa fd [x] sp) (bind : ∀ (s : Shared) (u : Value), BindsTo s fd ⟨[u], []⟩ [(x, u)])
    (hsp : sp [.ref a] H (fun v _ => v = .bl true) fun _ _ _ => False) (ok : HOk P w H s.heap) (here : ∀ b, H b ≠ none → b = a) (frz : ∀ u, H a = some u → ∃ o xs, u = .frz o (.lst xs)) (out : H a ≠ none → K.lookup a = none) :
    codeAny (model P w) callerA (.call (.ref fa) ⟨[.ref a], []⟩) (fun r s' => r = .ok (.ret (.bool true)) ∧ OldK s.heap s'.heap ∧ s'.os = s.os ∧ AllBare s'.gens) s := by
  have away : ∀ {b : Addr}, b ≠ a → H b = none := fun {b} n => by
    cases e : H b with
    | none => rfl
    | some u => exact absurd (here b (by rw [e]; exact nofun)) n
  -- dicts, and what the module wrote, are not the script
  have dict : ∀ {b : Addr} {o : Obj} {es : Array DictEntry} {n : Nat}, s.heap.get? b = some o → o.data = .dict es n → H b = none := fun {b o es n} e d => away fun z => by
    rw [z, at_] at e
    cases e
    cases d
  have kin : ∀ {b : Addr} {o : Obj}, K.lookup b = some o → H b = none := fun {b o} e => by
    by_cases z : b = a
    · cases q : H a with
      | none => rw [z]; exact q
      | some u =>
        have := out (by rw [q]; exact nofun)
        rw [z, this] at e
        cases e
    · exact away z
  have KB : K.In (hidT s.heap H) := fun b o e => hidT_get (KX b o e) (kin e)
  have nsB : ∀ {b : Addr} {m : Str → Option Value}, s.heap.Ns b m → (hidT s.heap H).Ns b m := fun {b m} ⟨o, es, n, e, d, r⟩ => ⟨o, es, n, hidT_get e (dict e d), d, r⟩
  have md : Mod K mg (hidT s.heap H) := ⟨KB, nsB hns, ⟨mb, nsB hb, hbb⟩, by obtain ⟨mc, l1, l2⟩ := lim; exact ⟨mc, nsB l1, l2⟩⟩
  have env : Env0 P w K mg (hidT s.heap H) callerA [] s H := ⟨rfl, md, fun b o e => of_hidT e, by rw [hidT_size]; exact Nat.le_refl _, trivial, fun b z => (nomatch z), ok, .of_eq hg⟩
  refine codeAny_mono ((F _ KB (nsB hns)).go callerA [] s H ⟨[.ref a], []⟩ [.ref a] [.ref a] _ _ rfl hr env (bind s _) (.cons rfl .nil) hsp) fun way sE z => ?_
  match way, z with
  | .ok (.ret u), ⟨v, H', e1, e2, un, ok', rv, (q : v = .bl true)⟩ =>
    subst q
    cases rv
    refine ⟨rfl, OldK.of_keep fun b o e => ?_, e1, e2⟩
    by_cases z : H b = none
    · exact un.keep b o e z (fun m => nomatch m) (fun m => nomatch m)
    · obtain rfl := here b z
      cases q : H b with
      | none => exact absurd q z
      | some u =>
        obtain ⟨o', xs, rfl⟩ := frz u q
        have f1 := (ok b _ q).1
        rw [e] at f1
        cases f1
        exact (ok' b _ (un.frzs b _ _ q)).1
/-- the promise of the law's def at the heap behind the top -/
theorem law_goes (KX : K.In s.heap) (hns : s.heap.Ns mainGlobals mg) (hb : s.heap.Ns builtinsNs mb) (hbb : ∀ x : Str, x ≠ "__name__" → mb x = bootBuiltins x) (lim : s.heap.NoLimit) (hg : s.gens = #[])
    (at_ : s.heap.get? a = some { cls := .type "list", data := .seq vs.toArray }) (hin : IntsAre vs ns) (hl : ns.length ≤ sizeLine) (hr : Room k callerA)
    (F : ∀ base : Heap, K.In base → base.Ns mainGlobals mg → FnG P w K mg base CX0 k fa fd [x] sp) (bind : ∀ (s : Shared) (u : Value), BindsTo s fd ⟨[u], []⟩ [(x, u)])
    (hsp : ∀ H : Hp, SqL K H a (ns.map V.int) → sp [.ref a] H (fun v _ => v = .bl true) fun _ _ _ => False) :
    codeAny (model P w) callerA (.call (.ref fa) ⟨[.ref a], []⟩) (fun r s' => r = .ok (.ret (.bool true)) ∧ OldK s.heap s'.heap ∧ s'.os = s.os ∧ AllBare s'.gens) s := by
  have rv := vals_ints hin
  cases e : K.lookup a with
  | some o =>
    have e2 := (KX a o e).symm.trans at_
    cases e2
    have sq : SqL K (fun _ => none) a (ns.map V.int) := .inr ⟨_, vs.toArray, _, e, rfl, rfl, rfl, by rw [List.size_toArray, hin.length]; exact hl, rv⟩
    exact law_from (H := fun _ => none) KX hns hb hbb lim hg at_ hr F bind (hsp _ sq) (fun b u q => nomatch q) (fun b q => absurd rfl q) (fun u q => nomatch q) fun q => absurd rfl q
  | none =>
    have one : ∀ {b u}, (fun b => if b = a then some (HO.frz { cls := .type "list", data := .seq vs.toArray } (.lst (ns.map V.int))) else none : Hp) b = some u → b = a ∧ u = .frz { cls := .type "list", data := .seq vs.toArray } (.lst (ns.map V.int)) := fun {b u} q => by
      dsimp only at q
      split at q
      · next h => exact ⟨h, (Option.some.inj q).symm⟩
      · cases q
    refine law_from (H := fun b => if b = a then some (.frz { cls := .type "list", data := .seq vs.toArray } (.lst (ns.map V.int))) else none) KX hns hb hbb lim hg at_ hr F bind (hsp _ (.inl (.inr ⟨_, if_pos rfl⟩))) (fun b u q => ?_) (fun b q => ?_) (fun u q => ?_) fun _ => e
    · obtain ⟨rfl, rfl⟩ := one q
      exact ⟨at_, by rw [List.length_map]; exact hl, vs, _, rv, at_⟩
    · cases z : (fun b => if b = a then some (HO.frz { cls := .type "list", data := .seq vs.toArray } (.lst (ns.map V.int))) else none : Hp) b with
      | none => exact absurd z q
      | some u => exact (one z).1
    · exact ⟨_, _, (one q).2⟩
end
theorem walk_G {l : PySem.W.OpenLaw} {n k : Nat} {q : Program} {loose : List Str} {XP : (Str → Option Value) → Heap → Prop} {YP : World → Heap → Prop} {d : DefRec} {K : Params → PySem.W.Frag} {sp : PySem.W.Frag → Sp} {x : Str}
    (hn : l.most = some n) (small : n ≤ sizeLine) (hdf : d.params.defaults = []) (hr : Room k callerA) (hY : ∀ (w : World) (h : Heap), YP w h → (K w.params).In h)
    (F : ∀ (w : World) (mg : Str → Option Value) (fa : Addr) (h : Heap), (K w.params).In h → h.Ns mainGlobals mg → mg d.name = some (.ref fa) →
      ∃ fd : FuncData, (∀ (s : Shared) (u : Value), BindsTo s fd ⟨[u], []⟩ [(x, u)]) ∧ ∀ base : Heap, (K w.params).In base → base.Ns mainGlobals mg → FnG l.prog w (K w.params) mg base CX0 k fa fd [x] (sp (K w.params)))
    (hsp : ∀ (K : PySem.W.Frag) (H : Hp) (a : Addr) (ns : List Int), ns.length ≤ n → SqL K H a (ns.map V.int) → sp K [.ref a] H (fun v _ => v = .bl true) fun _ _ _ => False) :
    PySem.W.WalkO q loose XP YP l.row.toRowW d [] (fun f vs => PySem.call f vs) := by
  refine Att.attach_call hn hdf fun w s₀ s₁ mg mb fa o pm cd doc a vs ns G Y _ _ _ hmg at_ hin hlen hg => ?_
  obtain ⟨fd, bind, go⟩ := F w mg fa _ (hY w _ Y) G.T.g hmg
  exact law_goes (hY w _ Y) G.T.g G.T.b G.T.builtins G.T.nolimit hg at_ hin (Nat.le_trans hlen small) hr go bind fun H h => hsp _ H a ns hlen h
end Ow

set_option Elab.async false
set_option linter.all false
set_option maxRecDepth 100000
set_option maxHeartbeats 2000000
namespace Sx
open PySem PySem.Spec PyProof.Rows L2
section
variable {H H' H1 H2 : Hp} {p a b c l C dx : Addr} {o u : HO} {K : PySem.W.Frag} {σ : L2.St} {Q : VK} {v w : V} {D : Ends} {t : TT} {ta tb te tv : TE} {A B : Prop} {f : Str} {fs : List (Str × V)}
/-! ### repr -/
theorem x_repr {d : PyData} (h : Dp K H v d) (s : Ow.Shw d) (k : Q (.str d.shown) H) : Ow.rRepr K [v] H Q := ⟨v, d, rfl, h, s, k⟩
/-! ### fields -/
def FldK (K : PySem.W.Frag) (f : Str) (x : V) (H1 : Hp) (Q : VK) : Prop := ∃ a C dx fs v, x = .ref a ∧ H1 a = some (.ins C dx fs) ∧ Cls K C ∧ NoAttr K C f ∧ fs.lookup f = some v ∧ Q v H1
theorem x_fld (k : ta σ H fun x H1 => FldK K f x H1 Q) : tFld K ta f σ H Q := k
theorem x_fldK (h : H a = some (.ins C dx fs)) (c : Cls K C) (n : NoAttr K C f) (l : fs.lookup f = some v) (k : Q v H) : FldK K f (.ref a) H Q := ⟨a, C, dx, fs, v, rfl, h, c, n, l, k⟩
def SetK (K : PySem.W.Frag) (f : Str) (y x : V) (H2 : Hp) (R : Hp → Prop) : Prop := ∃ a C dx fs, x = .ref a ∧ H2 a = some (.ins C dx fs) ∧ Cls K C ∧ NoAttr K C f ∧ fs.length < 1000 ∧ R (upd H2 a (.ins C dx (putF f y fs)))
theorem x_setF (k : tv σ H fun y H1 => ta σ H1 fun x H2 => SetK K f y x H2 fun H3 => D.nx σ H3) : sFld K ta tv f D σ H := k
theorem x_setK {y : V} {R : Hp → Prop} (h : H a = some (.ins C dx fs)) (c : Cls K C) (n : NoAttr K C f) (l : fs.length < 1000) (k : R (upd H a (.ins C dx (putF f y fs)))) : SetK K f y (.ref a) H R := ⟨a, C, dx, fs, rfl, h, c, n, l, k⟩
/-! ### a new instance -/
theorem x_make {sp : Sp} {E : XK} {ts : TA} (k : ts σ H fun vs H1 => ∀ x dx, H1 x = none → H1 dx = none → dx ≠ x → sp (.ref x :: vs) (upd (upd H1 dx (.own x)) x (.ins C dx [])) (fun v H2 => v = .non ∧ Q (.ref x) H2) E) : tMake C sp [] E ts σ H Q := by
  show ts σ H fun vs H1 => ∀ x dx, H1 x = none → H1 dx = none → dx ≠ x → sp (.ref x :: (vs ++ [])) (upd (upd H1 dx (.own x)) x (.ins C dx [])) (fun v H2 => v = .non ∧ Q (.ref x) H2) E
  have e : (fun (vs : List V) (H1 : Hp) => ∀ x dx, H1 x = none → H1 dx = none → dx ≠ x → sp (.ref x :: (vs ++ [])) (upd (upd H1 dx (.own x)) x (.ins C dx [])) (fun v H2 => v = .non ∧ Q (.ref x) H2) E) = fun vs H1 => ∀ x dx, H1 x = none → H1 dx = none → dx ≠ x → sp (.ref x :: vs) (upd (upd H1 dx (.own x)) x (.ins C dx [])) (fun v H2 => v = .non ∧ Q (.ref x) H2) E := by
    funext vs H1
    rw [List.append_nil]
  rw [e]
  exact k
/-! ### dicts, numbers, texts -/
theorem x_dict0 (k : JustNew (.dK []) H Q) : tDNewK σ H Q := k
theorem x_pow {i j : Int} (c : CPow i j) (k : Q (.int (i ^ j.toNat)) H) : rI CPow (fun i j => .int (i ^ j.toNat)) (.int i) (.int j) H Q := ⟨i, j, rfl, rfl, c, k⟩
/-- text * int -/
def rMulS : R2 := fun x y H Q => ∃ (z : Str) (i : Int), x = .str z ∧ y = .int i ∧ z.length ≤ 16 ∧ 0 ≤ i ∧ i ≤ 1048576 ∧ ∀ q : Str, Q (.str q) H
theorem x_mulS {z : Str} {i : Int} (h : z.length ≤ 16) (h0 : 0 ≤ i) (h1 : i ≤ 1048576) (k : ∀ q : Str, Q (.str q) H) : rMulS (.str z) (.int i) H Q := ⟨z, i, rfl, rfl, h, h0, h1, k⟩
end
section
variable {X : Cx}
theorem op_mulS : OpR X (binaryOp .Mult) rMulS := by
  intro pins s σ H x y v u Q I rx ry h
  obtain ⟨z, i, rfl, rfl, hz, h0, h1, q⟩ := h
  obtain ⟨t, rfl⟩ := rx
  obtain ⟨t', rfl⟩ := ry
  exact PySem.W.KXi.mul rfl hz (by omega) h1 fun t2 k _ _ => ⟨.str _, H, I.tok _, ⟨_, rfl⟩, q _⟩
end
/-! ### things of any kind -/
/-- what an own class's instances want for isinstance -/
structure ClsT (K : PySem.W.Frag) (C : Addr) : Prop where
  cl : Cls K C
  ha : PySem.W.findIn K (.ref C) "__class__" = some (some (.builtin "object.__class__"))
  hn : PySem.W.specialIn K (.builtin "object.__class__") "__get__" = some (some (.builtin "getset_descriptor.__get__"))
  htk : PySem.W.takesIn K (.builtin "object.__class__") = some true
  hm : PySem.W.mroIn K C (.type "object") = some true
  kI : PySem.W.kitOne K (.ref C) (.type "int") = some false
  kB : PySem.W.kitOne K (.ref C) (.type "bool") = some false
  kT : PySem.W.kitOne K (.ref C) (.type "tuple") = some false
  kL : PySem.W.kitOne K (.ref C) (.type "list") = some false
  kD : PySem.W.kitOne K (.ref C) (.type "dict") = some false
  kS : PySem.W.kitOne K (.ref C) (.type "str") = some false
inductive Thing (K : PySem.W.Frag) (H : Hp) : V → Prop where
  | int (i : Int) : Thing K H (.int i)
  | bl (b : Bool) : Thing K H (.bl b)
  | non : Thing K H .non
  | str (z : Str) : Thing K H (.str z)
  | lst {a : Addr} {xs : List V} (e : H a = some (.lst xs)) (n : NB (.lst xs)) : Thing K H (.ref a)
  | tup {a : Addr} {xs : List V} (e : H a = some (.tup xs)) : Thing K H (.ref a)
  | dK {a : Addr} {kvs : List (Key × V)} (e : H a = some (.dK kvs)) : Thing K H (.ref a)
  | ins {a C dx : Addr} {fs : List (Str × V)} (e : H a = some (.ins C dx fs)) (c : ClsT K C) : Thing K H (.ref a)
theorem NB.dK {kvs : List (Key × V)} : NB (.dK kvs) := fun _ _ _ _ h => nomatch h
section
variable {H H1 : Hp} {K : PySem.W.Frag} {v : V} {Q : VK}
theorem Thing.mono (h : Thing K H v) (e : Ex H H1) : Thing K H1 v := by
  cases h with
  | int i => exact .int i
  | bl b => exact .bl b
  | non => exact .non
  | str z => exact .str z
  | lst h n => exact .lst (e.kp _ _ h n) n
  | tup h => exact .tup (e.kp _ _ h NB.tup)
  | dK h => exact .dK (e.kp _ _ h NB.dK)
  | ins h c => exact .ins (e.kp _ _ h NB.ins) c
/-- the type of a thing and what isinstance tells of it -/
structure Kinds (K : PySem.W.Frag) (H : Hp) (v : V) (bI bB bT bL bS bD : Bool) : Prop where
  ex : ∃ t, TyX K H v t ∧ PySem.W.kitOne K t (.type "int") = some bI ∧ PySem.W.kitOne K t (.type "bool") = some bB ∧ PySem.W.kitOne K t (.type "tuple") = some bT ∧ PySem.W.kitOne K t (.type "list") = some bL ∧ PySem.W.kitOne K t (.type "str") = some bS ∧ PySem.W.kitOne K t (.type "dict") = some bD
def isBl : V → Bool
  | .bl _ => true
  | _ => false
def isStr : V → Bool
  | .str _ => true
  | _ => false
theorem Kinds.int {i : Int} : Kinds K H (.int i) true false false false false false := ⟨_, .base (.int i), kit_ty (by decide +kernel), kit_ty (by decide +kernel), kit_ty (by decide +kernel), kit_ty (by decide +kernel), kit_ty (by decide +kernel), kit_ty (by decide +kernel)⟩
theorem Kinds.bl {i : Bool} : Kinds K H (.bl i) true true false false false false := ⟨_, .base (.bl i), kit_ty (by decide +kernel), kit_ty (by decide +kernel), kit_ty (by decide +kernel), kit_ty (by decide +kernel), kit_ty (by decide +kernel), kit_ty (by decide +kernel)⟩
theorem Kinds.non : Kinds K H .non false false false false false false := ⟨_, .base .non, kit_ty (by decide +kernel), kit_ty (by decide +kernel), kit_ty (by decide +kernel), kit_ty (by decide +kernel), kit_ty (by decide +kernel), kit_ty (by decide +kernel)⟩
theorem Kinds.str {z : Str} : Kinds K H (.str z) false false false false true false := ⟨_, .base (.str z), kit_ty (by decide +kernel), kit_ty (by decide +kernel), kit_ty (by decide +kernel), kit_ty (by decide +kernel), kit_ty (by decide +kernel), kit_ty (by decide +kernel)⟩
theorem Kinds.lst {a : Addr} {xs : List V} (e : H a = some (.lst xs)) : Kinds K H (.ref a) false false false true false false := ⟨_, .base (.lst e), kit_ty (by decide +kernel), kit_ty (by decide +kernel), kit_ty (by decide +kernel), kit_ty (by decide +kernel), kit_ty (by decide +kernel), kit_ty (by decide +kernel)⟩
theorem Kinds.tup {a : Addr} {xs : List V} (e : H a = some (.tup xs)) : Kinds K H (.ref a) false false true false false false := ⟨_, .base (.tup e), kit_ty (by decide +kernel), kit_ty (by decide +kernel), kit_ty (by decide +kernel), kit_ty (by decide +kernel), kit_ty (by decide +kernel), kit_ty (by decide +kernel)⟩
theorem Kinds.dK {a : Addr} {xs : List (Key × V)} (e : H a = some (.dK xs)) : Kinds K H (.ref a) false false false false false true := ⟨_, .base (.dK e), kit_ty (by decide +kernel), kit_ty (by decide +kernel), kit_ty (by decide +kernel), kit_ty (by decide +kernel), kit_ty (by decide +kernel), kit_ty (by decide +kernel)⟩
theorem Kinds.ins {a C dx : Addr} {fs : List (Str × V)} (e : H a = some (.ins C dx fs)) (c : ClsT K C) : Kinds K H (.ref a) false false false false false false := ⟨_, .base (.ins e c.cl c.ha c.hn c.htk c.hm), c.kI, c.kB, c.kT, c.kL, c.kS, c.kD⟩
theorem Thing.kinds (h : Thing K H v) : ∃ bT bL bD, Kinds K H v (isI v || isBl v) (isBl v) bT bL (isStr v) bD := by
  cases h with
  | int i => exact ⟨_, _, _, Kinds.int⟩
  | bl b => exact ⟨_, _, _, Kinds.bl⟩
  | non => exact ⟨_, _, _, Kinds.non⟩
  | str z => exact ⟨_, _, _, Kinds.str⟩
  | lst h n => exact ⟨_, _, _, Kinds.lst h⟩
  | tup h => exact ⟨_, _, _, Kinds.tup h⟩
  | dK h => exact ⟨_, _, _, Kinds.dK h⟩
  | ins h c => exact ⟨_, _, _, Kinds.ins h c⟩
theorem x_isiInt {bI bB bT bL bS bD : Bool} (h : Kinds K H v bI bB bT bL bS bD) (k : Q (.bl bI) H) : rIsi K [v, .ty "int"] H Q := let ⟨t, ty, e, _⟩ := h.ex; ⟨_, _, t, _, _, rfl, .ty _, ty, e, k⟩
theorem x_isiBool {bI bB bT bL bS bD : Bool} (h : Kinds K H v bI bB bT bL bS bD) (k : Q (.bl bB) H) : rIsi K [v, .ty "bool"] H Q := let ⟨t, ty, _, e, _⟩ := h.ex; ⟨_, _, t, _, _, rfl, .ty _, ty, e, k⟩
theorem x_isiTup {bI bB bT bL bS bD : Bool} (h : Kinds K H v bI bB bT bL bS bD) (k : Q (.bl bT) H) : rIsi K [v, .ty "tuple"] H Q := let ⟨t, ty, _, _, e, _⟩ := h.ex; ⟨_, _, t, _, _, rfl, .ty _, ty, e, k⟩
theorem x_isiLst {bI bB bT bL bS bD : Bool} (h : Kinds K H v bI bB bT bL bS bD) (k : Q (.bl bL) H) : rIsi K [v, .ty "list"] H Q := let ⟨t, ty, _, _, _, e, _⟩ := h.ex; ⟨_, _, t, _, _, rfl, .ty _, ty, e, k⟩
theorem x_isiStr {bI bB bT bL bS bD : Bool} (h : Kinds K H v bI bB bT bL bS bD) (k : Q (.bl bS) H) : rIsi K [v, .ty "str"] H Q := let ⟨t, ty, _, _, _, _, e, _⟩ := h.ex; ⟨_, _, t, _, _, rfl, .ty _, ty, e, k⟩
theorem x_isiDct {bI bB bT bL bS bD : Bool} (h : Kinds K H v bI bB bT bL bS bD) (k : Q (.bl bD) H) : rIsi K [v, .ty "dict"] H Q := let ⟨t, ty, _, _, _, _, _, e⟩ := h.ex; ⟨_, _, t, _, _, rfl, .ty _, ty, e, k⟩
end
/-! ### shown data -/
theorem shw_mk {d : PyData} (h : d.showable = true) (h1 : d.hasDict = false) (h2 : d.leavesShort 60 = true) (h3 : d.bulk ≤ 100000) (h4 : d.depth ≤ 40) : Ow.Shw d := ⟨h, h1, h2, h3, h4⟩
section
variable {H : Hp} {K : PySem.W.Frag} {a : Addr}
theorem dpAll_bls : ∀ bs : List Bool, DpAll K H (bs.map V.bl) (bs.map PyData.bool)
  | [] => .nil
  | b :: bs => .cons (.bl b) (dpAll_bls bs)
theorem dp_bls {bs : List Bool} (h : H a = some (.lst (bs.map V.bl))) : Dp K H (.ref a) (.list (bs.map PyData.bool)) := .lst (SqL.of h) (dpAll_bls bs)
end
theorem bls_show : ∀ bs : List Bool, PyData.showableAll (bs.map PyData.bool) = true ∧ PyData.hasDictAll (bs.map PyData.bool) = false ∧ PyData.leavesShortAll 60 (bs.map PyData.bool) = true ∧ PyData.depthAll (bs.map PyData.bool) = 0
  | [] => ⟨rfl, rfl, rfl, rfl⟩
  | b :: bs => by
    obtain ⟨h1, h2, h3, h4⟩ := bls_show bs
    refine ⟨?_, ?_, ?_, ?_⟩ <;> simp [PyData.showableAll, PyData.hasDictAll, PyData.leavesShortAll, PyData.depthAll, PyData.showable, PyData.hasDict, PyData.leavesShort, PyData.depth, h1, h2, h3, h4]
theorem bls_bulk : ∀ bs : List Bool, PyData.bulkAll (bs.map PyData.bool) ≤ 10 * bs.length
  | [] => Nat.le_refl _
  | b :: bs => by
    have := bls_bulk bs
    simp only [List.map_cons, PyData.bulkAll, PyData.bulk, List.length_cons]
    omega
theorem shw_bls {bs : List Bool} (h : bs.length ≤ 1000) : Ow.Shw (.list (bs.map PyData.bool)) := by
  obtain ⟨h1, h2, h3, h4⟩ := bls_show bs
  have h5 := bls_bulk bs
  refine ⟨?_, ?_, ?_, ?_, ?_⟩
  · simpa [PyData.showable] using h1
  · simpa [PyData.hasDict] using h2
  · simpa [PyData.leavesShort] using h3
  · simp only [PyData.bulk]
    omega
  · simp only [PyData.depth, h4]
    omega
end Sx

set_option Elab.async false
set_option linter.all false
set_option maxRecDepth 100000
set_option maxHeartbeats 2000000
namespace Sx
open PySem PySem.Spec PyProof.Rows L2 StrLaws
section
variable {H H' H1 H2 : Hp} {p a b c l C dx : Addr} {o u : HO} {K : PySem.W.Frag} {σ : L2.St} {Q : VK} {v w : V} {D : Ends} {t : TT} {ta tb te tv : TE} {A B : Prop}
/-! ### loops over tuples -/
def TK (K : PySem.W.Frag) (x : V) (H1 : Hp) (R : It → Hp → Prop) : Prop := ∃ a, x = .ref a ∧ (∃ xs, SqT K H1 a xs) ∧ R (Itt K a) H1
theorem x_iT {R : It → Hp → Prop} (k : ta σ H fun x H1 => TK K x H1 R) : iTup K ta σ H R := k
theorem for_tupl {xs : List V} {j : Nat} {tb : TS} (hx : H1 a = some (.tup xs)) (Pv : Nat → L2.St → Hp → Prop) (h0 : Pv 0 σ H1) (hl : ∀ i σ H, i ≤ xs.length → Pv i σ H → H a = some (.tup xs))
    (hs : ∀ (i : Nat) x σ H, xs[i]? = some x → Pv i σ H → tb { D with nx := Pv (i + 1), ct := Pv (i + 1), bk := D.nx } (σ.set j (some x)) H) (hd : ∀ σ H, Pv xs.length σ H → D.nx σ H) : TK K (.ref a) H1 fun J H2 => ForGo J (gName j) tb D σ H2 :=
  ⟨a, rfl, ⟨xs, SqT.of hx⟩, for_tup Pv h0 (fun i σ H hi q => SqT.of (hl i σ H hi q)) (fun i x σ H h q => hs i x σ H h q) hd⟩
theorem lc_tup {xs : List V} {j : Nat} {vs : List Nat} (hx : H1 a = some (.tup xs)) (I : Nat → List V → Hp → Prop) (h0 : I 0 [] H1) (mono : ∀ i acc H H', Tx H H' → I i acc H → I i acc H') (nb : ∀ i acc H, I i acc H → NB (.lst acc) ∧ acc.length < sizeLine)
    (hw : ∀ x, wipe ((wipe σ vs).set j (some x)) vs = wipe σ vs)
    (turn : ∀ (i : Nat) x acc H', xs[i]? = some x → Ex H1 H' → I i acc H' → ∀ kk : Option V → Hp → Prop, (∀ y H4, Ex H' H4 → I (i + 1) (acc ++ [y]) H4 → kk (some y) H4) → (∀ H4, Ex H' H4 → I (i + 1) acc H4 → kk none H4) →
      t ((wipe σ vs).set j (some x)) H' fun b H3 => if b = true then te ((wipe σ vs).set j (some x)) H3 (fun y H4 => kk (some y) H4) else kk none H3)
    (k : ∀ p ys H2, Ex H1 H2 → H1 p = none → H2 p = some (.lst ys) → I xs.length ys H2 → Q (.ref p) H2) : TK K (.ref a) H1 fun J H2 => LcGo J (gName j) t te vs σ H2 Q := by
  have hq : ∀ H', Ex H1 H' → SqT K H' a xs := fun H' e => SqT.of (e.kp _ _ hx NB.tup)
  refine ⟨a, rfl, ⟨xs, SqT.of hx⟩, lc_any (n := xs.length) I h0 mono nb (fun i H' hi e => ⟨xs, xs[i], hq H' e, by simp [hi]⟩) (fun H' e => ⟨xs, hq H' e, Nat.le_refl _⟩) (fun i acc x H' H'' hi e q y kk k1 k2 => ?_) k⟩
  obtain ⟨rfl, y⟩ := y
  exact ⟨hw _, turn i x acc _ (y xs (hq _ e)) e q kk k1 k2⟩
theorem x_inI {n : Int} (ns : List Int) (h : H p = some (.tup (ns.map V.int))) (k : Q (.bl (decide (n ∈ ns))) H) : rIn K false (.int n) (.ref p) H Q := ⟨p, _, rfl, .inr (SqT.of h), rfl, flat_ints, by rw [if_neg Bool.false_ne_true, inV_ints]; exact k⟩
theorem x_NeIf {i j : Int} (h : i = j) (k : Q (.bl false) H) : rNe (.int i) (.int j) H Q := x_NeI (by rw [decide_eq_true h]; exact k)
theorem x_EqIt {i j : Int} (h : i = j) (k : Q (.bl true) H) : rEq (.int i) (.int j) H Q := x_EqI (by rw [decide_eq_true h]; exact k)
theorem x_powE {i j n : Int} (c : CPow i j) (e : i ^ j.toNat = n) (k : Q (.int n) H) : rI CPow (fun i j => .int (i ^ j.toNat)) (.int i) (.int j) H Q := x_pow c (by rw [e]; exact k)
/-! ### a dict of one pair -/
def DispK (H : Hp) (p : Addr) (ps : List (V × V)) (H2 : Hp) (Q : VK) : Prop := H2 p = some (.dK []) ∧ ∃ kvs : List (Key × V), ps = kvs.map (fun kv => (kV kv.1, kv.2)) ∧ kvs.length ≤ 15 ∧ Q (.ref p) (upd H2 p (.dK (mergeK [] kvs)))
theorem x_disp1 {tk tv : TE} (k : ∀ p H0, Ex H H0 → H p = none → H0 p = some (.dK []) → tk σ H0 fun x H1 => tv σ H1 fun y H2 => DispK H p [(x, y)] H2 Q) : tDisp [(tk, tv)] σ H Q := fun p hp => k p _ (Ex.new hp) hp upd_same
theorem x_dispI {i : Int} {y : V} (h : H2 p = some (.dK [])) (hp : H p = none) (e : Ex H H2) (k : ∀ H3, Ex H H3 → H3 p = some (.dK [(Sum.inl i, y)]) → Q (.ref p) H3) : DispK H p [(.int i, y)] H2 Q := ⟨h, [(Sum.inl i, y)], rfl, (by show 1 ≤ 15; decide), k _ (Ex.mut e hp) upd_same⟩
theorem x_dispS {i : Str} {y : V} (h : H2 p = some (.dK [])) (hp : H p = none) (e : Ex H H2) (k : ∀ H3, Ex H H3 → H3 p = some (.dK [(Sum.inr i, y)]) → Q (.ref p) H3) : DispK H p [(.str i, y)] H2 Q := ⟨h, [(Sum.inr i, y)], rfl, (by show 1 ≤ 15; decide), k _ (Ex.mut e hp) upd_same⟩
/-! ### things that are tuples or none -/
theorem Thing.tupOr (t : Thing K H v) : (∃ p xs, v = .ref p ∧ H p = some (.tup xs)) ∨ (∃ bI bB bL bS bD, Kinds K H v bI bB false bL bS bD) ∧ ∀ p xs, v = .ref p → H p ≠ some (.tup xs) := by
  cases t with
  | int i => exact .inr ⟨⟨_, _, _, _, _, Kinds.int⟩, fun p xs e => by cases e⟩
  | bl b => exact .inr ⟨⟨_, _, _, _, _, Kinds.bl⟩, fun p xs e => by cases e⟩
  | non => exact .inr ⟨⟨_, _, _, _, _, Kinds.non⟩, fun p xs e => by cases e⟩
  | str z => exact .inr ⟨⟨_, _, _, _, _, Kinds.str⟩, fun p xs e => by cases e⟩
  | lst h n => exact .inr ⟨⟨_, _, _, _, _, Kinds.lst h⟩, fun p xs e q => by cases e; rw [h] at q; cases q⟩
  | tup h => exact .inl ⟨_, _, rfl, h⟩
  | dK h => exact .inr ⟨⟨_, _, _, _, _, Kinds.dK h⟩, fun p xs e q => by cases e; rw [h] at q; cases q⟩
  | ins h c => exact .inr ⟨⟨_, _, _, _, _, Kinds.ins h c⟩, fun p xs e q => by cases e; rw [h] at q; cases q⟩
/-- a thing, and so are its items if it is a tuple -/
structure Deep (K : PySem.W.Frag) (H : Hp) (v : V) : Prop where
  th : Thing K H v
  it : ∀ p xs, v = .ref p → H p = some (.tup xs) → ∀ x ∈ xs, Thing K H x
theorem Deep.flat (t : Thing K H v) (n : ∀ p xs, v = .ref p → H p ≠ some (.tup xs)) : Deep K H v := ⟨t, fun p xs e h => absurd h (n p xs e)⟩
theorem Deep.tup {xs : List V} (h : H a = some (.tup xs)) (t : ∀ x ∈ xs, Thing K H x) : Deep K H (.ref a) := ⟨.tup h, fun p ys e q => by
  cases e
  rw [h] at q
  cases q
  exact t⟩
theorem Deep.mono (d : Deep K H v) (e : Ex H H1) : Deep K H1 v := by
  refine ⟨d.th.mono e, fun p xs ev h x hx => ?_⟩
  rcases d.th.tupOr with ⟨p', ys, e1, h1⟩ | ⟨_, no⟩
  · subst ev
    cases e1
    have h2 := e.kp _ _ h1 NB.tup
    rw [h] at h2
    cases h2
    exact (d.it _ _ rfl h1 x hx).mono e
  · subst ev
    have g := d.th
    cases g with
    | lst q n => have := e.kp _ _ q n; rw [h] at this; cases this
    | tup q => exact absurd q (no _ _ rfl)
    | dK q => have := e.kp _ _ q NB.dK; rw [h] at this; cases this
    | ins q c => have := e.kp _ _ q NB.ins; rw [h] at this; cases this
end
/-! ### shown numbers -/
theorem log2_small {n : Nat} (h : n < 10 ^ 59) : n.log2 < 1920 := by
  by_cases h0 : n = 0
  · subst h0; decide
  · rw [Nat.log2_lt h0]
    exact Nat.lt_of_lt_of_le h (Nat.le_trans (show 10 ^ 59 ≤ 2 ^ 200 by decide) (Nat.pow_le_pow_right (by decide) (by decide)))
theorem int_short {i : Int} (h : i.natAbs < 10 ^ 59) : PyData.leavesShort 60 (.int i) = true := by
  simp only [PyData.leavesShort, decide_eq_true_eq]
  have e := int_text_length_le10 (k := 59) (by decide) h
  show (Str.ofString (toString i)).length ≤ 60
  rw [PySem.ofString_length]
  exact e
theorem int_shows {i : Int} (h : i.natAbs < 10 ^ 59) : PyData.showable (.int i) = true := by
  simp only [PyData.showable, decide_eq_true_eq]
  exact log2_small h
theorem shw_int {i : Int} (h : i.natAbs < 10 ^ 59) : Ow.Shw (.int i) := ⟨int_shows h, rfl, int_short h, by simp [PyData.bulk], by simp [PyData.depth]⟩
theorem shw_tup2 {i j : Int} (h : i.natAbs < 10 ^ 59) (h2 : j.natAbs < 10 ^ 59) : Ow.Shw (.tuple [.int i, .int j]) := by
  refine ⟨?_, ?_, ?_, ?_, ?_⟩
  · simp only [PyData.showable, PyData.showableAll, Bool.and_eq_true, and_true]
    exact ⟨by simpa [PyData.showable] using int_shows h, by simpa [PyData.showable] using int_shows h2⟩
  · rfl
  · simp only [PyData.leavesShort, PyData.leavesShortAll, Bool.and_eq_true, and_true]
    exact ⟨by simpa [PyData.leavesShort] using int_short h, by simpa [PyData.leavesShort] using int_short h2⟩
  · simp [PyData.bulk, PyData.bulkAll]
  · simp [PyData.depth, PyData.depthAll]
end Sx

set_option Elab.async false
set_option linter.all false
set_option maxRecDepth 100000
set_option maxHeartbeats 2000000
namespace Sx
open PySem PySem.Spec PyProof.Rows L2
section
variable {H H' H1 H2 : Hp} {p a b c l C dx : Addr} {o u : HO} {K : PySem.W.Frag} {σ : L2.St} {Q : VK} {v w : V} {D : Ends} {t : TT} {ta tb te tv tx ty td : TE} {A B : Prop} {i j : Int} {xs ys : List V}
/-! ### min, max, list, index -/
def rMin2 : List V → Hp → VK → Prop := fun xs H Q => ∃ i j, xs = [.int i, .int j] ∧ Q (.int (if j < i then j else i)) H
def rMax2 : List V → Hp → VK → Prop := fun xs H Q => ∃ i j, xs = [.int i, .int j] ∧ Q (.int (if j > i then j else i)) H
theorem x_min2 (k : Q (.int (if j < i then j else i)) H) : rMin2 [.int i, .int j] H Q := ⟨i, j, rfl, k⟩
theorem x_max2 (k : Q (.int (if j > i then j else i)) H) : rMax2 [.int i, .int j] H Q := ⟨i, j, rfl, k⟩
def rListOf (K : PySem.W.Frag) : List V → Hp → VK → Prop := fun xs H Q => ∃ p ys, xs = [.ref p] ∧ (SqL K H p ys ∨ SqT K H p ys) ∧ JustNew (.lst ys) H Q
theorem x_listOfT (h : H p = some (.tup xs)) (k : JustNew (.lst xs) H Q) : rListOf K [.ref p] H Q := ⟨p, xs, rfl, .inr (SqT.of h), k⟩
theorem x_listOfL (h : H p = some (.lst xs)) (k : JustNew (.lst xs) H Q) : rListOf K [.ref p] H Q := ⟨p, xs, rfl, .inl (SqL.of h), k⟩
def rTupIdx (K : PySem.W.Frag) : V → List V → Hp → VK → Prop := fun x xs H Q => ∃ (p : Addr) (ns : List Int) (n : Int) (j : Nat), x = .ref p ∧ xs = [.int n] ∧ SqT K H p (ns.map V.int) ∧ ns[j]? = some n ∧ (∀ m, m < j → ns[m]? ≠ some n) ∧ Q (.int (j : Nat)) H
theorem x_tupIdx {ns : List Int} {n : Int} (j : Nat) (h : H p = some (.tup (ns.map V.int))) (hj : ns[j]? = some n) (no : ∀ m, m < j → ns[m]? ≠ some n) (k : Q (.int (j : Nat)) H) : rTupIdx K (.ref p) [.int n] H Q := ⟨p, ns, n, j, rfl, rfl, SqT.of h, hj, no, k⟩
/-! ### tuples joined and cut, any -/
theorem x_catA (h : H a = some (.tup xs)) (h' : H b = some (.tup ys)) (l : xs.length + ys.length ≤ sizeLine) (k : ∀ p H1, Ex H H1 → H1 p = some (.tup (xs ++ ys)) → Q (.ref p) H1) : rCatA K (.ref a) (.ref b) H Q := by
  refine ⟨a, b, xs, ys, rfl, rfl, SqT.of h, SqT.of h', l, fun e => ?_, fun _ e => ?_, fun _ _ p hp => k p _ (Ex.new hp) upd_same⟩
  · exact k b H (Ex.refl H) (by rw [h', e]; rfl)
  · exact k a H (Ex.refl H) (by rw [h, e, List.append_nil])
theorem x_slA {lo hi : Option Int} (h : H a = some (.tup xs)) (k : ∀ p H1, Ex H H1 → H1 p = some (.tup (cutV xs lo hi)) → Q (.ref p) H1) : rSlA K (.ref a) lo hi H Q := by
  refine ⟨a, xs, rfl, SqT.of h, fun e => ?_, fun _ p hp => k p _ (Ex.new hp) upd_same⟩
  refine k a H (Ex.refl H) ?_
  rw [h]
  unfold cutV
  rw [e.1, e.2, List.drop_zero, Nat.sub_zero, List.take_length]
/-! ### a dict of four pairs, and get -/
theorem x_disp4 {k1 v1 k2 v2 k3 v3 k4 v4 : TE} (k : ∀ p H0, Ex H H0 → H p = none → H0 p = some (.dK []) → k1 σ H0 fun x1 H1 => v1 σ H1 fun y1 H1 => k2 σ H1 fun x2 H1 => v2 σ H1 fun y2 H1 => k3 σ H1 fun x3 H1 => v3 σ H1 fun y3 H1 => k4 σ H1 fun x4 H1 => v4 σ H1 fun y4 H1 => DispK H p [(x1, y1), (x2, y2), (x3, y3), (x4, y4)] H1 Q) :
    tDisp [(k1, v1), (k2, v2), (k3, v3), (k4, v4)] σ H Q := fun p hp => k p _ (Ex.new hp) hp upd_same
theorem merge4 {z1 z2 z3 z4 : Str} {y1 y2 y3 y4 : V} (h : ([z1, z2, z3, z4] : List Str).Nodup) : mergeK [] [((Sum.inr z1 : Key), y1), (Sum.inr z2, y2), (Sum.inr z3, y3), (Sum.inr z4, y4)] = [(Sum.inr z1, y1), (Sum.inr z2, y2), (Sum.inr z3, y3), (Sum.inr z4, y4)] := by
  simp only [List.nodup_cons, List.mem_cons, List.not_mem_nil, or_false, not_or, not_false_eq_true, List.nodup_nil, and_true] at h
  obtain ⟨⟨n12, n13, n14⟩, ⟨n23, n24⟩, n34⟩ := h
  simp [mergeK, putK, n12, n13, n14, n23, n24, n34]
theorem x_disp4S {z1 z2 z3 z4 : Str} {y1 y2 y3 y4 : V} (h : H2 p = some (.dK [])) (hp : H p = none) (e : Ex H H2) (nd : ([z1, z2, z3, z4] : List Str).Nodup)
    (k : ∀ H3, Ex H H3 → (∀ a xs, H2 a = some (.tup xs) → H3 a = some (.tup xs)) → H3 p = some (.dK [(Sum.inr z1, y1), (Sum.inr z2, y2), (Sum.inr z3, y3), (Sum.inr z4, y4)]) → Q (.ref p) H3) : DispK H p [(.str z1, y1), (.str z2, y2), (.str z3, y3), (.str z4, y4)] H2 Q := by
  refine ⟨h, [(Sum.inr z1, y1), (Sum.inr z2, y2), (Sum.inr z3, y3), (Sum.inr z4, y4)], rfl, (by show 4 ≤ 15; decide), ?_⟩
  refine k _ (Ex.mut e hp) (fun a xs ha => ?_) (by rw [upd_same, merge4 nd])
  rw [upd_ne (ne_of ha h (by intro z; cases z))]
  exact ha
end
end Sx

set_option Elab.async false
set_option linter.all false
set_option maxRecDepth 100000
set_option maxHeartbeats 2000000
/-! a tuple the other way round -/
namespace Rv
open PySem PySem.Spec PyProof.Rows L2
section
variable {prog : Program} {w : World} {A : Around} {E : Value → Shared → Prop} {s : Shared}
theorem adj_back (n : Nat) : Builtin.Slice.sliceAdjust none none (-1) (n : Int) = ((n : Int) - 1, -1) := by
  unfold Builtin.Slice.sliceAdjust
  simp
theorem many_back (n : Nat) : Builtin.Slice.slicePlaces ((n : Int) - 1) (-1) (-1) = n := by
  unfold Builtin.Slice.slicePlaces
  simp
  split <;> omega
theorem fm_congr {f g : Nat → Option Value} : ∀ l : List Nat, (∀ m ∈ l, f m = g m) → l.filterMap f = l.filterMap g
  | [], _ => rfl
  | m :: l, h => by
    rw [List.filterMap_cons, List.filterMap_cons, h m (by simp), fm_congr l fun x hx => h x (by simp [hx])]
theorem pick_back (xs : Array Value) : ((List.range xs.size).filterMap fun (m : Nat) => xs[(((xs.size : Nat) : Int) - 1 + (m : Int) * -1).toNat]?) = xs.toList.reverse := by
  have g := congrArg Array.toList (HT.pick_gen xs.toList.reverse.toArray 0 xs.size)
  simp only [List.drop_zero] at g
  rw [List.take_of_length_le (by simp)] at g
  rw [← g]
  refine fm_congr _ fun m hm => ?_
  have hm' : m < xs.size := List.mem_range.mp hm
  rw [show (((xs.size : Nat) : Int) - 1 + (m : Int) * -1).toNat = xs.size - 1 - m by omega, show (((0 : Nat) : Int) + (m : Int) * 1).toNat = m by omega]
  simp [List.getElem?_reverse, hm']
theorem back_slice {sl : Addr} {vs : Value} {n : Nat} {t : Tok} {Q : Int × Int × Nat → Shared → Prop} (cut : s.heap.IsSliceOf sl .none .none vs) (one : vs = .int (-1) t)
    (fin : Q ((n : Int) - 1, -1, n) s) : wpAny (model prog w) A (Builtin.Slice.sliceApplied (.ref sl) (pure (n : Int))) Q E s := by
  subst one
  obtain ⟨ob, at0, _, parts⟩ := id cut
  unfold Builtin.Slice.sliceApplied Builtin.Slice.sliceFields
  refine wpAny_bind (wpAny_bind (wpAny_field at0 parts (x := .none) rfl (wpAny_bind (wpAny_field at0 parts (x := .none) rfl (wpAny_bind (wpAny_field at0 parts (x := .int (-1) t) rfl (wpAny_pure ?_)))))))
  refine wpAny_bind (HT.slicePart_ (IsPart.int (-1) t) ?_)
  show wpAny _ _ (if ((-1 : Int) == 0) = true then _ else _) _ _ s
  rw [if_neg (by decide)]
  refine wpAny_bind (HT.slicePart_ .none (wpAny_bind (HT.slicePart_ .none (wpAny_bind (wpAny_pure ?_)))))
  show wpAny _ _ (match Builtin.Slice.sliceAdjust none none (-1) (n : Int) with | (x, y) => pure (x, (-1 : Int), Builtin.Slice.slicePlaces x y (-1))) _ _ s
  rw [adj_back]
  show wpAny _ _ (pure ((n : Int) - 1, (-1 : Int), Builtin.Slice.slicePlaces ((n : Int) - 1) (-1) (-1))) _ _ s
  rw [many_back]
  exact wpAny_pure fin
theorem back_tuple {a sl : Addr} {its : Array Value} {vs : Value} {t : Tok} {Q : Value → Shared → Prop} (tup : IsTup s.heap a its) (cut : s.heap.IsSliceOf sl .none .none vs) (one : vs = .int (-1) t) (small : its.size ≤ sizeLine)
    (fin : Q (.ref s.heap.objs.size) { s with heap := s.heap.push { cls := .type "tuple", data := .seq its.toList.reverse.toArray } }) : wpAny (model prog w) A (getItem (.ref a) (.ref sl)) Q E s := by
  have fits : sizeOk (.seq its.toList.reverse.toArray) := by
    show its.toList.reverse.toArray.size ≤ sizeLine
    simpa using small
  obtain ⟨ob, at0, kind, _⟩ := id cut
  have isSl : s.TypeIs (.ref sl) "slice" := ⟨ob, at0, kind⟩
  unfold getItem
  try with_reducible refine wpAny_holding ?_
  first | refine wpAny_bind (wpAny_pure ?_) | skip
  refine wpAny_bind (wpAny_sequenceKey tup.typeIs (by decide) ?_)
  refine wpAny_bind (wpAny_callSpecial?_slot (name := Str.ofString "__getitem__") tup.typeIs PyProof.Rows.slot_tuple_getitem (wpAny_call_entry PyProof.Rows.slot_tuple_getitem tup.typeIs PyProof.Rows.entry_tuple_getitem ?_ (PyProof.Rows.args_tuple_getitem _ _)))
  show wpAny _ _ (Builtin.Tuple.tupleItemsOf (.ref a) >>= _) _ _ s
  refine wpAny_bind (PyProof.Rows.tupleItemsOf_ tup (wpAny_bind (wpAny_typeOf isSl ?_)))
  rw [if_pos (by decide)]
  refine wpAny_bind (back_slice cut one ?_)
  show wpAny _ _ (if ((((its.size : Nat) : Int) - 1) == 0 && (-1 : Int) == 1 && its.size == its.size) = true then _ else _) _ _ s
  rw [if_neg (by simp), pick_back]
  first
    | exact wpAny_bind (m := Builtin.Tuple.tupleExact _) (wpAny_newObj_type (wpAny_pure ⟨_, rfl, wpAny_pure fin⟩) fits)
    | exact wpAny_bind (m := Builtin.Tuple.tupleExact _) (wpAny_newObj_type (wpAny_bind (wpAny_pure (wpAny_pure ⟨_, rfl, wpAny_pure fin⟩))) fits)
    | exact wpAny_bind (wpAny_bind (m := Builtin.Tuple.tupleExact _) (wpAny_newObj_type (wpAny_pure (wpAny_pure ⟨_, rfl, wpAny_pure fin⟩)) fits))
    | exact wpAny_bind (wpAny_bind (m := Builtin.Tuple.tupleExact _) (wpAny_newObj_type (wpAny_pure ⟨_, rfl, wpAny_pure fin⟩) fits))
end
section
variable {X : Cx}
/-- t[::-1], t a tuple -/
def tBackT (K : PySem.W.Frag) (te : TE) : TE := fun σ H Q => te σ H fun x H1 => ∃ a xs, x = .ref a ∧ SqT K H1 a xs ∧ ∀ p, H1 p = none → Q (.ref p) (upd H1 p (.tup xs.reverse))
theorem pe_backT {e : Expr} {te : TE} {k : Nat} {p1 p2 p3 pos : Pos} (he : PE X e te) : PE X (.Subscript e (.Slice none none (some (.UnaryOp .USub (.Constant (.int 1) k p1) p2)) p3) pos) (tBackT X.K te) := by
  constructor
  intro pins s σ H Q I h
  refine Subscript_ (thn (he.run pins s σ H _ I h) ?_)
  rintro v s1 ⟨_, H1, I1, r1, a, xs, rfl, hx, q⟩
  cases r1
  have none1 : PO X none tNoPart := po_none
  have minus : PO X (some (.UnaryOp .USub (.Constant (.int 1) k p1) p2)) (tPart (tUn (rU fun i => .int (-i)) (tC (.int 1)))) := po_some (pe_un un_neg pe_int)
  refine wpAny_Slice (thn (none1.run pins s1 σ H1 (fun o H2 => o = none ∧ H2 = H1) I1 ⟨rfl, rfl⟩) ?_)
  rintro vl s2 ⟨o2, H2, I2, pl, e2, e2'⟩
  subst e2 e2'
  refine thn (none1.run pins s2 σ H2 (fun o H3 => o = none ∧ H3 = H2) I2 ⟨rfl, rfl⟩) ?_
  rintro vu s3 ⟨o3, H3, I3, pu, e3, e3'⟩
  subst e3 e3'
  refine thn (minus.run pins s3 σ H3 (fun o H4 => o = some (-1) ∧ H4 = H3) I3 ⟨1, rfl, -1, rfl, rfl, rfl⟩) ?_
  rintro vs s4 ⟨o4, H4, I4, ps, e4, e4'⟩
  subst e4 e4'
  cases pl
  cases pu
  cases ps with
  | int _ t =>
    have I5 : L2.Inv X pins σ H4 { s4 with heap := s4.heap.push { cls := .type "slice", data := .fields #[.none, .none, .int (-1) t] } } := I4.kept (t' := s4.toks) fun b ob q => Heap.get?_push_of_some _ q
    obtain ⟨its, r, ht, hz⟩ := I5.tuple hx
    have hlen := r.length
    show wpAny (model X.prog X.w) X.A (subscriptTail e (.Slice none none (some (.UnaryOp .USub (.Constant (.int 1) k p1) p2)) p3) (.ref a) (.ref s4.heap.objs.size)) (EP X pins σ Q) X.xe { s4 with heap := s4.heap.push { cls := .type "slice", data := .fields #[.none, .none, .int (-1) t] } }
    refine tail_any (ops := [.ref a, .ref s4.heap.objs.size]) ht.typeIs (PyProof.Rows.slot_tuple_getitem.lookup) ?_ (by with_unfolding_all rfl)
    refine back_tuple ht (Heap.IsSliceOf.new _ .none .none (.int (-1) t)) rfl (by rw [List.size_toArray]; omega) ?_
    refine ⟨.ref _, _, I5.laid (t' := s4.toks) (o := .tup xs.reverse) (fun b ob q => Heap.get?_push_of_some _ q) (Nat.le_refl _) ?_, rfl, q _ (I5.hok.fresh (Nat.le_refl _))⟩
    exact ⟨by rw [List.length_reverse]; exact hz, _, r.reverse, IsTup.new _ _⟩
end
end Rv
namespace Rv
open PySem PySem.Spec PyProof.Rows L2
section
variable {X : Cx}
/-! ### a range as a value, and what is not in it -/
def rRange1 : List V → Hp → VK → Prop := fun vs H Q => ∃ j : Int, vs = [.int j] ∧ ∀ p, H p = none → Q (.ref p) (upd H p (.rng 0 j))
theorem c_range1 : CallR X (.type "range") rRange1 := by
  intro pins s σ H vs us Q I r h
  obtain ⟨j, rfl, q⟩ := h
  obtain ⟨u, rfl, ru⟩ := vals1 r
  obtain ⟨t, rfl⟩ := ru
  refine call_range_1 ⟨.ref s.heap.objs.size, upd H s.heap.objs.size (.rng 0 j), ?_⟩
  refine ⟨I.laid (t' := _) (fun b o e => Heap.get?_push_of_some _ e) (Nat.le_refl _) ⟨_, _, _, Heap.get?_push_size _ rfl⟩, rfl, q _ (I.hok.fresh (Nat.le_refl _))⟩
def rNotInRng : R2 := fun x y H Q => ∃ (i : Int) (a : Addr) (lo hi : Int), x = .int i ∧ y = .ref a ∧ H a = some (.rng lo hi) ∧ Q (.bl (!decide (lo ≤ i ∧ i < hi))) H
theorem op_notInRng : OpR X (compareOp .NotIn) rNotInRng := by
  intro pins s σ H x y v u Q I rx ry h
  obtain ⟨i, a, lo, hi, rfl, rfl, ha, q⟩ := h
  obtain ⟨k, rfl⟩ := rx
  cases ry
  obtain ⟨t1, t2, t3, at0⟩ := I.hok a _ ha
  show wpAny _ _ (do return Value.bool (!(← contains (Value.ref a) (Value.int i k)))) _ _ s
  refine wpAny_bind (wpAny_contains_slot (T := "range") ⟨_, at0, rfl⟩ F.slot_range_contains (call_meets F.slot_range_contains ⟨_, at0, rfl⟩ F.entry_range_contains (F.args_range_contains_2 _ _) (q_contains a lo hi i t1 t2 t3 k) ⟨at0, wpAny_truthy_bool (wpAny_pure ?_)⟩))
  rw [place1]
  exact ⟨.bl _, H, I, rfl, q⟩
/-! ### repr, of an empty dict too -/
def rReprX (K : PySem.W.Frag) : List V → Hp → VK → Prop := fun xs H Q => Ow.rRepr K xs H Q ∨ ∃ a, xs = [.ref a] ∧ H a = some (.dK []) ∧ Q (.str (PyData.dict []).shown) H
theorem call_reprX (hG : X.A.guards = some []) (hu : X.A.units + 64 < cLine) : CallR X (.builtin "repr") (rReprX X.K) := by
  intro pins s σ H xs us Q I r h
  rcases h with h | ⟨a, rfl, ha, q⟩
  · exact Ow.call_repr hG hu pins s σ H xs us Q I r h
  · obtain ⟨u, rfl, ru⟩ := vals1 r
    cases ru
    obtain ⟨_, away, vs, kv, o, es, ep, at0, ex, dat, _, prs, _⟩ := I.hok a _ ha
    cases kv
    have none0 : es.toList = [] := by
      generalize es.toList = l at prs
      cases prs
      rfl
    have rd : Reads s.heap (.ref a) (.dict []) (a :: [] ++ []) := .dict (kvs := []) at0 ex.1 dat (by rw [none0]; exact .nil) (by rw [none0]; exact .nil)
    refine PySem.repr_of_reads' rd rfl (fun _ m => ?_) hG ?_ (fun b o e => e) (fun h' u tk keep => ⟨.str _, H, I.kept keep, ⟨_, rfl⟩, q⟩) ?_
    · rcases List.mem_singleton.mp (by simpa using m) with e
      rw [← e] at away
      simp at away
    · show X.A.units + (PyData.depth (.dict []) + 1) < cLine
      have : PyData.depth (.dict []) = 1 := rfl
      omega
    · show (PyData.dict []).shown.length ≤ sizeLine
      exact Nat.le_trans (show (PyData.dict []).shown.length ≤ 2 by decide) (by decide)
end
end Rv

set_option Elab.async false
set_option linter.all false
set_option maxRecDepth 100000
set_option maxHeartbeats 2000000
namespace Sx
open PySem PySem.Spec PyProof.Rows L2 StrLaws
/-! ### data that stays -/
mutual
def DN (H : Hp) : PyData → V → Prop
  | .none, v => v = .non
  | .bool b, v => v = .bl b
  | .int i, v => v = .int i
  | .str z, v => v = .str z
  | .list ds, v => ∃ a xs, v = .ref a ∧ H a = some (.lst xs) ∧ NB (.lst xs) ∧ DNs H ds xs
  | .tuple ds, v => ∃ a xs, v = .ref a ∧ H a = some (.tup xs) ∧ DNs H ds xs
  | .dict _, _ => False
def DNs (H : Hp) : List PyData → List V → Prop
  | [], xs => xs = []
  | d :: ds, xs => ∃ x r, xs = x :: r ∧ DN H d x ∧ DNs H ds r
end
mutual
theorem DN.dp {H : Hp} {K : PySem.W.Frag} : ∀ (d : PyData) (v : V), DN H d v → Dp K H v d
  | .none, _, h => by rw [DN] at h; rw [h]; exact .non
  | .bool b, _, h => by rw [DN] at h; rw [h]; exact .bl b
  | .int i, _, h => by rw [DN] at h; rw [h]; exact .int i
  | .str z, _, h => by rw [DN] at h; rw [h]; exact .str z
  | .list ds, _, h => by
    rw [DN] at h
    obtain ⟨a, xs, rfl, ha, _, hd⟩ := h
    exact .lst (SqL.of ha) (DNs.dp ds xs hd)
  | .tuple ds, _, h => by
    rw [DN] at h
    obtain ⟨a, xs, rfl, ha, hd⟩ := h
    exact .tup (SqT.of ha) (DNs.dp ds xs hd)
  | .dict _, _, h => by rw [DN] at h; exact h.elim
theorem DNs.dp {H : Hp} {K : PySem.W.Frag} : ∀ (ds : List PyData) (xs : List V), DNs H ds xs → DpAll K H xs ds
  | [], _, h => by rw [DNs] at h; rw [h]; exact .nil
  | d :: ds, _, h => by
    rw [DNs] at h
    obtain ⟨x, r, rfl, h1, h2⟩ := h
    exact .cons (DN.dp d x h1) (DNs.dp ds r h2)
end
mutual
theorem DN.mono {H H1 : Hp} (e : Ex H H1) : ∀ (d : PyData) (v : V), DN H d v → DN H1 d v
  | .none, _, h => by rw [DN] at h ⊢; exact h
  | .bool b, _, h => by rw [DN] at h ⊢; exact h
  | .int i, _, h => by rw [DN] at h ⊢; exact h
  | .str z, _, h => by rw [DN] at h ⊢; exact h
  | .list ds, _, h => by
    rw [DN] at h ⊢
    obtain ⟨a, xs, rfl, ha, nb, hd⟩ := h
    exact ⟨a, xs, rfl, e.kp _ _ ha nb, nb, DNs.mono e ds xs hd⟩
  | .tuple ds, _, h => by
    rw [DN] at h ⊢
    obtain ⟨a, xs, rfl, ha, hd⟩ := h
    exact ⟨a, xs, rfl, e.kp _ _ ha NB.tup, DNs.mono e ds xs hd⟩
  | .dict _, _, h => by rw [DN] at h; exact h.elim
theorem DNs.mono {H H1 : Hp} (e : Ex H H1) : ∀ (ds : List PyData) (xs : List V), DNs H ds xs → DNs H1 ds xs
  | [], _, h => by rw [DNs] at h ⊢; exact h
  | d :: ds, _, h => by
    rw [DNs] at h ⊢
    obtain ⟨x, r, rfl, h1, h2⟩ := h
    exact ⟨x, r, rfl, DN.mono e d x h1, DNs.mono e ds r h2⟩
end
theorem DNs.len {H : Hp} : ∀ {ds : List PyData} {xs : List V}, DNs H ds xs → ds.length = xs.length
  | [], _, h => by rw [DNs] at h; rw [h]; rfl
  | d :: ds, _, h => by
    rw [DNs] at h
    obtain ⟨x, r, rfl, h1, h2⟩ := h
    rw [List.length_cons, List.length_cons, DNs.len h2]
/-- small data -/
structure Sml (b e : Nat) (d : PyData) : Prop where
  able : d.showable = true
  nodict : d.hasDict = false
  short : d.leavesShort 60 = true
  lay : d.canLay0 = true
  bulk : d.bulk ≤ b
  deep : d.depth ≤ e
theorem Sml.up {b e b' e' : Nat} {d : PyData} (h : Sml b e d) (h1 : b ≤ b') (h2 : e ≤ e') : Sml b' e' d := ⟨h.able, h.nodict, h.short, h.lay, Nat.le_trans h.bulk h1, Nat.le_trans h.deep h2⟩
theorem Sml.shw {b e : Nat} {d : PyData} (h : Sml b e d) (h1 : b ≤ 100000) (h2 : e ≤ 40) : Ow.Shw d := ⟨h.able, h.nodict, h.short, Nat.le_trans h.bulk h1, Nat.le_trans h.deep h2⟩
theorem Sml.all {b e : Nat} : ∀ {ds : List PyData}, (∀ d ∈ ds, Sml b e d) → PyData.showableAll ds = true ∧ PyData.hasDictAll ds = false ∧ PyData.leavesShortAll 60 ds = true ∧ PyData.canLayAll0 ds = true ∧ PyData.bulkAll ds ≤ ds.length * (b + 1) ∧ PyData.depthAll ds ≤ e
  | [], _ => by simp [PyData.showableAll, PyData.hasDictAll, PyData.leavesShortAll, PyData.canLayAll0, PyData.bulkAll, PyData.depthAll]
  | d :: ds, h => by
    obtain ⟨h1, h2, h3, h4, h5, h6⟩ := h d (by simp)
    obtain ⟨k1, k2, k3, k4, k5, k6⟩ := Sml.all (ds := ds) fun x hx => h x (by simp [hx])
    refine ⟨?_, ?_, ?_, ?_, ?_, ?_⟩
    · simp [PyData.showableAll, h1, k1]
    · simp [PyData.hasDictAll, h2, k2]
    · simp [PyData.leavesShortAll, h3, k3]
    · simp [PyData.canLayAll0, h4, k4]
    · simp only [PyData.bulkAll, List.length_cons]
      rw [Nat.add_mul, Nat.one_mul]
      omega
    · simp only [PyData.depthAll]
      exact Nat.max_le.mpr ⟨h6, k6⟩
theorem Sml.tup {b e n : Nat} {ds : List PyData} (h : ∀ d ∈ ds, Sml b e d) (hn : ds.length ≤ n) : Sml (n * (b + 1)) (e + 1) (.tuple ds) := by
  obtain ⟨k1, k2, k3, k4, k5, k6⟩ := Sml.all h
  refine ⟨by simpa [PyData.showable] using k1, by simpa [PyData.hasDict] using k2, by simpa [PyData.leavesShort] using k3, by simpa [PyData.canLay0] using k4, ?_, ?_⟩
  · simp only [PyData.bulk]
    exact Nat.le_trans k5 (Nat.mul_le_mul_right _ hn)
  · simp only [PyData.depth]
    omega
theorem Sml.lst {b e n : Nat} {ds : List PyData} (h : ∀ d ∈ ds, Sml b e d) (hn : ds.length ≤ n) : Sml (n * (b + 1)) (e + 1) (.list ds) := by
  obtain ⟨k1, k2, k3, k4, k5, k6⟩ := Sml.all h
  refine ⟨by simpa [PyData.showable] using k1, by simpa [PyData.hasDict] using k2, by simpa [PyData.leavesShort] using k3, by simpa [PyData.canLay0] using k4, ?_, ?_⟩
  · simp only [PyData.bulk]
    exact Nat.le_trans k5 (Nat.mul_le_mul_right _ hn)
  · simp only [PyData.depth]
    omega
theorem Sml.int {i : Int} (h : i.natAbs < 10 ^ 59) : Sml 0 0 (.int i) := ⟨int_shows h, by simp [PyData.hasDict], int_short h, by simp [PyData.canLay0], by simp [PyData.bulk], by simp [PyData.depth]⟩
theorem Sml.bool {b : Bool} : Sml 0 0 (.bool b) := ⟨by simp [PyData.showable], by simp [PyData.hasDict], by simp [PyData.leavesShort], by simp [PyData.canLay0], by simp [PyData.bulk], by simp [PyData.depth]⟩
theorem Sml.none : Sml 0 0 .none := ⟨by simp [PyData.showable], by simp [PyData.hasDict], by simp [PyData.leavesShort], by simp [PyData.canLay0], by simp [PyData.bulk], by simp [PyData.depth]⟩
theorem Sml.str {z : Str} {n : Nat} (ok : PyData.strOk z = true) (h : (z.cps.toList.all fun c => decide (c < 16 ^ 8)) = true) (hn : z.cps.size ≤ n) : Sml n 0 (.str z) := ⟨by simp [PyData.showable], by simp [PyData.hasDict], by simpa only [PyData.leavesShort] using h, by simpa [PyData.canLay0] using ok, by simpa [PyData.bulk] using hn, by simp [PyData.depth]⟩
section
variable {H H1 : Hp} {b a : Addr} {K : PySem.W.Frag} {σ : L2.St} {Q : VK} {te : TE}
/-- a comprehension over zip(a text, a tuple), by what one turn gives -/
theorem zip_genV {x : Str} {ys : List V} {f : Nat → V → V} {j1 j2 : Nat} {vs : List Nat} (hx : H1 b = some (.tup ys)) (hn : x.cps.size = ys.length) (h4 : ys.length ≤ 1000)
    (hnb : ∀ i, NB (.lst ((List.zipWith f x.cps.toList ys).take i))) (hw : ∀ u v, wipe (((wipe σ vs).set j1 (some u)).set j2 (some v)) vs = wipe σ vs)
    (hte : ∀ (i c : Nat) (y : V) (H' : Hp) (Q' : VK), Ex H1 H' → x.cps.toList[i]? = some c → ys[i]? = some y → Q' (f c y) H' → te (((wipe σ vs).set j1 (some (.str ⟨#[c]⟩))).set j2 (some y)) H' Q')
    (k : ∀ p H2, Ex H1 H2 → H1 p = none → H2 p = some (.lst (List.zipWith f x.cps.toList ys)) → Q (.ref p) H2) :
    ZK K [.str x, .ref b] H1 fun J H2 => LcGo J (gTup K 2 (gCons (gName j1) (gCons (gName j2) gNil))) tYes te vs σ H2 Q := by
  have hz : (List.zipWith f x.cps.toList ys).length = ys.length := by rw [List.length_zipWith, Array.length_toList, hn, Nat.min_self]
  refine lc_zip (n := ys.length) (.inl ⟨hn, Nat.le_refl _⟩) hx (fun i acc _ => acc = (List.zipWith f x.cps.toList ys).take i) (by rw [List.take_zero]) (fun _ _ _ _ _ h => h) (fun i acc _ h => ?_) hw (fun i c y acc H' hc hy e hI kk k1 k2 => ?_) (fun p zs H2 e hp hzs hI => ?_)
  · subst h
    refine ⟨hnb i, Nat.lt_of_le_of_lt (Nat.le_trans (List.length_take_le' _ _) (by rw [hz]; exact h4)) (by decide)⟩
  · have hc' : x.cps.toList[i]? = some c := by simpa using hc
    refine x_yes (x_iteT (hte i c y H' _ e hc' hy (k1 _ _ (Ex.refl _) ?_)))
    rw [List.take_add_one, hI]
    congr 1
    rw [List.getElem?_zipWith, hc', hy]
    rfl
  · refine k p H2 e hp ?_
    rw [hzs, hI, ← hz, List.take_length]
end
end Sx

set_option Elab.async false
set_option linter.all false
set_option maxRecDepth 100000
set_option maxHeartbeats 2000000
namespace Sx
open PySem PySem.Spec PyProof.Rows L2 StrLaws
section
variable {H H1 : Hp} {p b a : Addr} {K : PySem.W.Frag} {σ : L2.St} {Q : VK} {te : TE} {v w : V} {xs : List V}
theorem x_notInTt (h : H p = some (.tup xs)) (hv : flatV v = true) (ha : xs.all flatV = true) (e : inV v xs = false) (k : Q (.bl true) H) : rIn K true v (.ref p) H Q := ⟨p, _, rfl, .inr (SqT.of h), hv, ha, by rw [if_pos rfl, e]; exact k⟩
theorem x_notInTf (h : H p = some (.tup xs)) (hv : flatV v = true) (ha : xs.all flatV = true) (e : inV v xs = true) (k : Q (.bl false) H) : rIn K true v (.ref p) H Q := ⟨p, _, rfl, .inr (SqT.of h), hv, ha, by rw [if_pos rfl, e]; exact k⟩
theorem x_notRng {i lo hi : Int} (h : H a = some (.rng lo hi)) (k : Q (.bl (!decide (lo ≤ i ∧ i < hi))) H) : Rv.rNotInRng (.int i) (.ref a) H Q := ⟨i, a, lo, hi, rfl, rfl, h, k⟩
theorem NB.rng {i j : Int} : NB (.rng i j) := fun _ _ _ _ h => nomatch h
theorem x_range1 {j : Int} (k : ∀ p H1, Ex H H1 → H p = none → H1 p = some (.rng 0 j) → Q (.ref p) H1) : Rv.rRange1 [.int j] H Q := ⟨j, rfl, fun p hp => k p _ (Ex.new hp) hp upd_same⟩
theorem x_backT (k : te σ H fun x H1 => ∃ a xs, x = .ref a ∧ SqT K H1 a xs ∧ JustNew (.tup xs.reverse) H1 Q) : Rv.tBackT K te σ H Q := k
theorem x_reprX (h : Ow.rRepr K xs H Q) : Rv.rReprX K xs H Q := .inl h
theorem x_repr0 (h : H a = some (.dK [])) (k : Q (.str (PyData.dict []).shown) H) : Rv.rReprX K [.ref a] H Q := .inr ⟨a, rfl, h, k⟩
/-- equality of data with an empty tuple, an empty list -/
theorem eqv_nilT {ds : List PyData} : PyData.eqv (.tuple ds) (.tuple []) = ds.isEmpty := by
  cases ds <;> simp [PyData.eqv, PyData.eqvAll]
theorem eqv_nilL {ds : List PyData} : PyData.eqv (.list ds) (.list []) = ds.isEmpty := by
  cases ds <;> simp [PyData.eqv, PyData.eqvAll]
end
section
variable {X : Cx}
theorem c_listOf : CallR X (.type "list") (rListOf X.K) := call_list_of
end
end Sx

set_option Elab.async false
set_option linter.all false
set_option maxRecDepth 100000
set_option maxHeartbeats 8000000
namespace My
open PySem PySem.Spec PyProof.Rows L2 Sx
local macro_rules | `(tactic| walk_at "nb") => `(tactic| first | exact NB.tup | exact NB.ints | exact NB.len (of_decide_eq_true rfl) | exact NB.at0b rfl | exact NB.at3b rfl | exact NB.ins | exact NB.own | exact NB.frz | exact NB.refs (by assumption) | assumption)
local macro_rules | `(tactic| walk_at "ne") => `(tactic| first | assumption | exact Ne.symm (by assumption) | exact ne_of_none (by assumption) (by assumption) | exact Ne.symm (ne_of_none (by assumption) (by assumption)))
local macro_rules | `(tactic| walk_at "hk") => `(tactic| first
  | assumption
  | exact upd_same
  | (refine' (upd_ne ?hkne).trans ?hkq; (case hkne => walk_at "ne"); (case hkq => walk_at "hk"))
  | (refine' Ex.kp (by assumption) _ _ ?hkq ?hkn; (case hkq => walk_at "hk"); (case hkn => walk_at "nb")))
local macro_rules | `(tactic| walk_at "rd1") => `(tactic| first
  | ((with_reducible refine' x_var ?hx ?_); (case hx => exact rfl))
  | with_reducible refine x_c ?_
  | with_reducible refine x_op ?_
  | with_reducible refine x_un ?_
  | with_reducible refine x_I0 ?_
  | with_reducible refine x_U ?_
  | ((with_reducible refine x_I ?hc ?_); (case hc => first | exact (by decide : (0 : Int) < _) | (show (0 : Int) < _; omega) | (show CMul _ _; first | exact .inl ⟨by omega, by omega⟩ | exact .inr ⟨by omega, by omega⟩) | (show CDiv _ _; exact ⟨by omega, by omega⟩) | (show CDivW _ _; exact wide_div (b := 200) (by omega) (by assumption) (by decide) (by decide)) | (show CDivW _ _; exact wide_div (b := 31) (by omega) (by omega) (by decide) (by decide))))
  | with_reducible refine x_EqI ?_
  | with_reducible refine x_NeI ?_
  | ((with_reducible refine x_EqSt ?h ?_); (case h => decide +kernel))
  | ((with_reducible refine x_EqSf ?h ?_); (case h => decide +kernel))
  | ((with_reducible refine x_NeSt ?h ?_); (case h => decide +kernel))
  | ((with_reducible refine x_NeSf ?h ?_); (case h => decide +kernel))
  | with_reducible refine x_EqS ?_
  | with_reducible refine x_NeS ?_
  | ((with_reducible refine' x_ixL ?hq ?hi ?_); (case hq => walk_at "hk"); (case hi => first | exact rfl | assumption))
  | ((with_reducible refine' x_ixT ?hq ?hi ?_); (case hq => walk_at "hk"); (case hi => first | exact rfl | assumption))
  | with_reducible refine x_chain ?_
  | with_reducible refine x_tup ?_
  | with_reducible refine x_lst ?_
  | ((with_reducible refine x_lenNew ?hl ?_); (case hl => exact Nat.le_of_ble_eq_true rfl); intro _ _ _ _ _)
  | ((with_reducible refine x_new ?_); intro _ _ _ _ _)
  | with_reducible refine x_sl ?_
  | with_reducible refine x_noPart ?_
  | with_reducible refine x_part ?_
  | with_reducible refine x_ex_int ?_
  | with_reducible refine x_ex_bl ?_
  | with_reducible refine x_ex_2 ?_
  | with_reducible refine x_test ?_
  | with_reducible refine x_B ?_
  | with_reducible refine x_and ?_
  | with_reducible refine x_or ?_
  | with_reducible refine x_not ?_
  | with_reducible refine x_andV ?_
  | with_reducible refine x_orV ?_
  | with_reducible refine x_notV ?_
  | with_reducible refine x_ifE ?_
  | with_reducible refine x_iteT ?_
  | with_reducible refine x_iteF ?_
  | ((with_reducible refine x_iteD ?_ ?_) <;> intro _)
  | ((with_reducible refine x_iteN ?_ ?_) <;> intro _)
  | with_reducible refine x_if ?_
  | with_reducible refine x_seq ?_
  | with_reducible refine x_next ?_
  | with_reducible refine x_asg ?_
  | with_reducible refine x_gName ?_
  | ((with_reducible refine' x_gTup ?hq ?hn ?_); (case hq => walk_at "hk"); (case hn => exact rfl))
  | with_reducible refine x_gCons ?_
  | with_reducible refine x_gNil ?_
  | ((with_reducible refine' x_gConsE ?h ?_); (case h => exact rfl))
  | ((with_reducible refine x_gNilE ?h ?_); (case h => exact rfl))
  | with_reducible refine x_ret ?_
  | with_reducible refine x_drop ?_
  | with_reducible refine x_par ?_
  | ((with_reducible refine' x_aug ?hx ?_); (case hx => exact rfl))
  | with_reducible refine x_ipI ?_
  | with_reducible refine x_augS ?_
  | with_reducible refine x_gSub ?_
  | ((with_reducible refine' x_setL ?hq ?hi ?_); (case hq => walk_at "hk"); (case hi => first | exact rfl | assumption))
  | with_reducible refine x_cons ?_
  | with_reducible refine x_nil ?_
  | with_reducible refine x_CB ?_
  | with_reducible refine x_abs ?_
  | with_reducible refine x_intI ?_
  | with_reducible refine x_intB ?_
  | ((with_reducible refine' x_lenL ?hq ?_); (case hq => walk_at "hk"))
  | ((with_reducible refine' x_lenT ?hq ?_); (case hq => walk_at "hk"))
  | ((with_reducible refine x_iteTe ?h ?_); (case h => exact rfl))
  | ((with_reducible refine x_iteFe ?h ?_); (case h => exact rfl))
  | walk_at "use"
  | with_reducible refine x_callS ?_
  | ((with_reducible refine x_lc ?_))
  | ((with_reducible refine x_for ?_))
  | ((with_reducible refine x_iR1 ?_))
  | ((with_reducible refine x_iL ?_))
  | ((with_reducible refine x_iZ ?_))
  | ((with_reducible refine x_yes ?_))
  | ((with_reducible refine' x_NIDt ?hq ?_); (case hq => assumption))
  | ((with_reducible refine' x_NIDf ?hq ?_); (case hq => assumption))
  | ((with_reducible refine' x_IIDf ?hq ?_); (case hq => assumption))
  | ((with_reducible refine' x_IIDt ?hq ?_); (case hq => assumption))
  | ((with_reducible refine' x_ixDs ?hd ?hq ?_); (case hd => assumption); (case hq => assumption))
  | ((with_reducible refine x_InSt ?h ?_); (case h => decide +kernel))
  | ((with_reducible refine x_InSf ?h ?_); (case h => decide +kernel))
  | ((with_reducible refine' x_notInI ?hq ?_); (case hq => walk_at "hk"))
  | ((with_reducible refine' x_inTt ?hq ?hv ?ha ?he ?_); (case hq => walk_at "hk"); (case hv => exact rfl); (case ha => exact rfl); (case he => decide +kernel))
  | ((with_reducible refine' x_inTf ?hq ?hv ?ha ?he ?_); (case hq => walk_at "hk"); (case hv => exact rfl); (case ha => exact rfl); (case he => decide +kernel))
  | ((with_reducible refine' x_slT ?hq ?hw ?_); (case hq => walk_at "hk"); (case hw => with_unfolding_all exact of_decide_eq_true rfl))
  | ((with_reducible refine' x_slL ?hq ?_); (case hq => walk_at "hk"))
  | ((with_reducible refine' x_catT ?hq ?hr ?n1 ?n2 ?hl ?_); (case hq => walk_at "hk"); (case hr => walk_at "hk"); (case n1 => exact List.cons_ne_nil _ _); (case n2 => exact List.cons_ne_nil _ _); (case hl => exact Nat.le_of_ble_eq_true rfl))
  | ((with_reducible refine x_bm ?_))
  | ((with_reducible refine x_lstRg ?_))
  | ((with_reducible refine x_rg1 ?_))
  | ((with_reducible refine And.intro ?h ?_); (case h => exact tyL (by assumption)))
  | dsimp only)
local macro_rules | `(tactic| walk_at "use") => `(tactic| fail)
local macro_rules | `(tactic| walk_at "rd") => `(tactic| repeat' (walk_at "rd1"))
local macro_rules | `(tactic| walk_at "ex") => `(tactic| first | exact Ex.refl _ | assumption | (refine' Ex.trans ?he (by assumption); (case he => walk_at "ex")))
local macro_rules | `(tactic| walk_at "rd1") => `(tactic| first
  | ((with_reducible refine x_iteDf ?h ?_); (case h => exact rfl))
  | ((with_reducible refine x_iteDt ?h ?_); (case h => exact rfl))
  | ((with_reducible refine x_iteNf ?h ?_); (case h => exact rfl))
  | ((with_reducible refine x_iteNt ?h ?_); (case h => exact rfl))
  | ((with_reducible refine x_isiI (r := true) ?h ?_); (case h => decide +kernel))
  | ((with_reducible refine x_isiI (r := false) ?h ?_); (case h => decide +kernel))
  | ((with_reducible refine x_isiS (r := true) ?h ?_); (case h => decide +kernel))
  | ((with_reducible refine x_isiS (r := false) ?h ?_); (case h => decide +kernel))
  | ((with_reducible refine x_isiB (r := true) ?h ?_); (case h => decide +kernel))
  | ((with_reducible refine x_isiB (r := false) ?h ?_); (case h => decide +kernel))
  | ((with_reducible refine' x_isiT (r := true) ?hp ?h ?_); (case hp => walk_at "hk"); (case h => decide +kernel))
  | ((with_reducible refine' x_isiT (r := false) ?hp ?h ?_); (case hp => walk_at "hk"); (case h => decide +kernel))
  | ((with_reducible refine' x_isiL (r := true) ?hp ?h ?_); (case hp => walk_at "hk"); (case h => decide +kernel))
  | ((with_reducible refine' x_isiL (r := false) ?hp ?h ?_); (case hp => walk_at "hk"); (case h => decide +kernel))
  | ((with_reducible refine' x_isi2L ?hp ?hl ?_); (case hp => walk_at "hk"); (case hl => walk_at "hk"))
  | ((with_reducible refine' x_isi2T ?hp ?hl ?_); (case hp => walk_at "hk"); (case hl => walk_at "hk"))
  | ((with_reducible refine' x_tupOfL ?hq ?_); (case hq => walk_at "hk"))
  | ((with_reducible refine' x_tupOfT ?hq ?_); (case hq => walk_at "hk"))
  | ((with_reducible refine x_lenS ?h ?_); (case h => exact Nat.le_of_ble_eq_true rfl))
  | ((with_reducible refine' x_all ?hq ?_); (case hq => walk_at "hk"))
  | with_reducible refine x_lenSet ?_)

def top (i : Nat) : Stmt := PySem.Challenge.pw_pupilpairs_k12_calls_judged.main.body.getD i (.Pass ⟨0, 0, 0, 0⟩)
abbrev s_is_integer : Stmt := top 2
theorem sc_is_integer : FnScope ["thing"] ["thing"] (defScope s_is_integer) := ⟨rfl, rfl, rfl, by decide +kernel, rfl, by decide +kernel, by decide +kernel⟩
abbrev s_is_files : Stmt := top 3
theorem sc_is_files : FnScope ["thing"] ["thing"] (defScope s_is_files) := ⟨rfl, rfl, rfl, by decide +kernel, rfl, by decide +kernel, by decide +kernel⟩
abbrev s_is_index : Stmt := top 4
theorem sc_is_index : FnScope ["thing", "many"] ["thing", "many"] (defScope s_is_index) := ⟨rfl, rfl, rfl, by decide +kernel, rfl, by decide +kernel, by decide +kernel⟩
abbrev s_is_part : Stmt := top 8
theorem sc_is_part : FnScope ["files", "part", "item"] ["files", "part", "item"] (defScope s_is_part) := ⟨rfl, rfl, rfl, by decide +kernel, rfl, by decide +kernel, by decide +kernel⟩
abbrev s_is_call : Stmt := top 9
theorem sc_is_call : FnScope ["files", "thing", "word", "parts", "named", "part", "item"] ["files", "thing"] (defScope s_is_call) := ⟨rfl, rfl, rfl, by decide +kernel, rfl, by decide +kernel, by decide +kernel⟩
abbrev s_turned : Stmt := top 10
theorem sc_turned : FnScope ["call"] ["call"] (defScope s_turned) := ⟨rfl, rfl, rfl, by decide +kernel, rfl, by decide +kernel, by decide +kernel⟩
abbrev s_files_of : Stmt := top 11
theorem sc_files_of : FnScope ["call", "part", "item"] ["call"] (defScope s_files_of) := ⟨rfl, rfl, rfl, by decide +kernel, rfl, by decide +kernel, by decide +kernel⟩
abbrev s_Lbag : Stmt := top 19
theorem sc_Lbag : FnScope ["_law_script", "_law_cell"] ["_law_script"] (defScope s_Lbag) := ⟨rfl, rfl, rfl, by decide +kernel, rfl, by decide +kernel, by decide +kernel⟩
abbrev s_Ltake : Stmt := top 20
theorem sc_Ltake : FnScope ["_law_bag_here", "_law_many", "_law_cell", "_law_mixed_here", "_law_drawn", "_law_begin", "_law_second"] ["_law_bag_here", "_law_many"] (defScope s_Ltake) := ⟨rfl, rfl, rfl, by decide +kernel, rfl, by decide +kernel, by decide +kernel⟩
abbrev s_Lone : Stmt := top 21
theorem sc_Lone : FnScope ["_law_bag_here", "_law_some"] ["_law_bag_here", "_law_some"] (defScope s_Lone) := ⟨rfl, rfl, rfl, by decide +kernel, rfl, by decide +kernel, by decide +kernel⟩
abbrev s_Lmixed : Stmt := top 22
theorem sc_Lmixed : FnScope ["_law_bag_here", "_law_things", "_law_found", "_law_thing"] ["_law_bag_here", "_law_things"] (defScope s_Lmixed) := ⟨rfl, rfl, rfl, by decide +kernel, rfl, by decide +kernel, by decide +kernel⟩
abbrev s_Lnumber : Stmt := top 23
theorem sc_Lnumber : FnScope ["_law_bag_here", "_law_most", "_law_number_here"] ["_law_bag_here", "_law_most"] (defScope s_Lnumber) := ⟨rfl, rfl, rfl, by decide +kernel, rfl, by decide +kernel, by decide +kernel⟩
abbrev s_Ltwo : Stmt := top 24
theorem sc_Ltwo : FnScope ["_law_bag_here", "_law_files", "_law_some"] ["_law_bag_here", "_law_files"] (defScope s_Ltwo) := ⟨rfl, rfl, rfl, by decide +kernel, rfl, by decide +kernel, by decide +kernel⟩
abbrev s_Lcall : Stmt := top 25
theorem sc_Lcall : FnScope ["_law_bag_here", "_law_files", "_law_kinds", "_law_most", "_law_kind"] ["_law_bag_here", "_law_files", "_law_kinds", "_law_most"] (defScope s_Lcall) := ⟨rfl, rfl, rfl, by decide +kernel, rfl, by decide +kernel, by decide +kernel⟩
abbrev s_Lall_kinds : Stmt := top 26
theorem sc_Lall_kinds : FnScope [] [] (defScope s_Lall_kinds) := ⟨rfl, rfl, rfl, by decide +kernel, rfl, by decide +kernel, by decide +kernel⟩
abbrev s_Lis_whole : Stmt := top 27
theorem sc_Lis_whole : FnScope ["_law_thing"] ["_law_thing"] (defScope s_Lis_whole) := ⟨rfl, rfl, rfl, by decide +kernel, rfl, by decide +kernel, by decide +kernel⟩
abbrev s_Lare_files : Stmt := top 28
theorem sc_Lare_files : FnScope ["_law_files", "_law_some", "_law_file"] ["_law_files", "_law_some"] (defScope s_Lare_files) := ⟨rfl, rfl, rfl, by decide +kernel, rfl, by decide +kernel, by decide +kernel⟩
abbrev s_Ldue : Stmt := top 29
theorem sc_Ldue : FnScope ["_law_files", "_law_thing"] ["_law_files", "_law_thing"] (defScope s_Ldue) := ⟨rfl, rfl, rfl, by decide +kernel, rfl, by decide +kernel, by decide +kernel⟩
abbrev s_Lbent : Stmt := top 30
theorem sc_Lbent : FnScope ["_law_bag_here", "_law_call_here", "_law_odd", "_law_way", "_law_at", "_law_near"] ["_law_bag_here", "_law_call_here"] (defScope s_Lbent) := ⟨rfl, rfl, rfl, by decide +kernel, rfl, by decide +kernel, by decide +kernel⟩
abbrev s_law : Stmt := top 31
theorem sc_law : FnScope ["_law_script", "_law_bag_here", "_law_made", "_law_turn", "_law_files", "_law_thing", "_law_again", "_law_shown", "_law_many", "_law_due_here"] ["_law_script"] (defScope s_law) := ⟨rfl, rfl, rfl, by decide +kernel, rfl, by decide +kernel, by decide +kernel⟩
abbrev s_Script_init : Stmt := inClass (top 17) 0
theorem sc_Script_init : FnScope ["self", "files", "calls", "call"] ["self", "files", "calls"] (defScope s_Script_init) := ⟨rfl, rfl, rfl, by decide +kernel, rfl, by decide +kernel, by decide +kernel⟩
structure Ad where
  a_is_integer : Addr
  fd_is_integer : FuncData
  a_is_files : Addr
  fd_is_files : FuncData
  a_is_index : Addr
  fd_is_index : FuncData
  a_is_part : Addr
  fd_is_part : FuncData
  a_is_call : Addr
  fd_is_call : FuncData
  a_turned : Addr
  fd_turned : FuncData
  a_files_of : Addr
  fd_files_of : FuncData
  a_Lbag : Addr
  fd_Lbag : FuncData
  a_Ltake : Addr
  fd_Ltake : FuncData
  a_Lone : Addr
  fd_Lone : FuncData
  a_Lmixed : Addr
  fd_Lmixed : FuncData
  a_Lnumber : Addr
  fd_Lnumber : FuncData
  a_Ltwo : Addr
  fd_Ltwo : FuncData
  a_Lcall : Addr
  fd_Lcall : FuncData
  a_Lall_kinds : Addr
  fd_Lall_kinds : FuncData
  a_Lis_whole : Addr
  fd_Lis_whole : FuncData
  a_Lare_files : Addr
  fd_Lare_files : FuncData
  a_Ldue : Addr
  fd_Ldue : FuncData
  a_Lbent : Addr
  fd_Lbent : FuncData
  a_law : Addr
  fd_law : FuncData
  a_Script_init : Addr
  fd_Script_init : FuncData
  c_Script : Addr
  d_PARTS : Addr
  es_PARTS : Array DictEntry
  n_PARTS : Nat
  d_UNDOING : Addr
  es_UNDOING : Array DictEntry
  n_UNDOING : Nat
structure Txt (K : PySem.W.Frag) (w : World) (mg : Str → Option Value) (a : Ad) : Prop where
  m_is_integer : mg "is_integer" = some (.ref a.a_is_integer)
  F_is_integer : Fun K "is_integer" "is_integer" s_is_integer a.a_is_integer a.fd_is_integer
  k_is_integer : PySem.W.keepIn K (.ref a.a_is_integer) = true
  b_is_integer : Binds K a.fd_is_integer ["thing"] []
  m_is_files : mg "is_files" = some (.ref a.a_is_files)
  F_is_files : Fun K "is_files" "is_files" s_is_files a.a_is_files a.fd_is_files
  k_is_files : PySem.W.keepIn K (.ref a.a_is_files) = true
  b_is_files : Binds K a.fd_is_files ["thing"] []
  m_is_index : mg "is_index" = some (.ref a.a_is_index)
  F_is_index : Fun K "is_index" "is_index" s_is_index a.a_is_index a.fd_is_index
  k_is_index : PySem.W.keepIn K (.ref a.a_is_index) = true
  b_is_index : Binds K a.fd_is_index ["thing", "many"] []
  m_is_part : mg "is_part" = some (.ref a.a_is_part)
  F_is_part : Fun K "is_part" "is_part" s_is_part a.a_is_part a.fd_is_part
  k_is_part : PySem.W.keepIn K (.ref a.a_is_part) = true
  b_is_part : Binds K a.fd_is_part ["files", "part", "item"] []
  m_is_call : mg "is_call" = some (.ref a.a_is_call)
  F_is_call : Fun K "is_call" "is_call" s_is_call a.a_is_call a.fd_is_call
  k_is_call : PySem.W.keepIn K (.ref a.a_is_call) = true
  b_is_call : Binds K a.fd_is_call ["files", "thing"] []
  m_turned : mg "turned" = some (.ref a.a_turned)
  F_turned : Fun K "turned" "turned" s_turned a.a_turned a.fd_turned
  k_turned : PySem.W.keepIn K (.ref a.a_turned) = true
  b_turned : Binds K a.fd_turned ["call"] []
  m_files_of : mg "files_of" = some (.ref a.a_files_of)
  F_files_of : Fun K "files_of" "files_of" s_files_of a.a_files_of a.fd_files_of
  k_files_of : PySem.W.keepIn K (.ref a.a_files_of) = true
  b_files_of : Binds K a.fd_files_of ["call"] []
  m_Lbag : mg "_law_bag" = some (.ref a.a_Lbag)
  F_Lbag : Fun K "_law_bag" "_law_bag" s_Lbag a.a_Lbag a.fd_Lbag
  k_Lbag : PySem.W.keepIn K (.ref a.a_Lbag) = true
  b_Lbag : Binds K a.fd_Lbag ["_law_script"] []
  m_Ltake : mg "_law_take" = some (.ref a.a_Ltake)
  F_Ltake : Fun K "_law_take" "_law_take" s_Ltake a.a_Ltake a.fd_Ltake
  k_Ltake : PySem.W.keepIn K (.ref a.a_Ltake) = true
  b_Ltake : Binds K a.fd_Ltake ["_law_bag_here", "_law_many"] []
  m_Lone : mg "_law_one" = some (.ref a.a_Lone)
  F_Lone : Fun K "_law_one" "_law_one" s_Lone a.a_Lone a.fd_Lone
  k_Lone : PySem.W.keepIn K (.ref a.a_Lone) = true
  b_Lone : Binds K a.fd_Lone ["_law_bag_here", "_law_some"] []
  m_Lmixed : mg "_law_mixed" = some (.ref a.a_Lmixed)
  F_Lmixed : Fun K "_law_mixed" "_law_mixed" s_Lmixed a.a_Lmixed a.fd_Lmixed
  k_Lmixed : PySem.W.keepIn K (.ref a.a_Lmixed) = true
  b_Lmixed : Binds K a.fd_Lmixed ["_law_bag_here", "_law_things"] []
  m_Lnumber : mg "_law_number" = some (.ref a.a_Lnumber)
  F_Lnumber : Fun K "_law_number" "_law_number" s_Lnumber a.a_Lnumber a.fd_Lnumber
  k_Lnumber : PySem.W.keepIn K (.ref a.a_Lnumber) = true
  b_Lnumber : Binds K a.fd_Lnumber ["_law_bag_here", "_law_most"] []
  m_Ltwo : mg "_law_two" = some (.ref a.a_Ltwo)
  F_Ltwo : Fun K "_law_two" "_law_two" s_Ltwo a.a_Ltwo a.fd_Ltwo
  k_Ltwo : PySem.W.keepIn K (.ref a.a_Ltwo) = true
  b_Ltwo : Binds K a.fd_Ltwo ["_law_bag_here", "_law_files"] []
  m_Lcall : mg "_law_call" = some (.ref a.a_Lcall)
  F_Lcall : Fun K "_law_call" "_law_call" s_Lcall a.a_Lcall a.fd_Lcall
  k_Lcall : PySem.W.keepIn K (.ref a.a_Lcall) = true
  b_Lcall : Binds K a.fd_Lcall ["_law_bag_here", "_law_files", "_law_kinds", "_law_most"] []
  m_Lall_kinds : mg "_law_all_kinds" = some (.ref a.a_Lall_kinds)
  F_Lall_kinds : Fun K "_law_all_kinds" "_law_all_kinds" s_Lall_kinds a.a_Lall_kinds a.fd_Lall_kinds
  k_Lall_kinds : PySem.W.keepIn K (.ref a.a_Lall_kinds) = true
  b_Lall_kinds : Binds K a.fd_Lall_kinds [] []
  m_Lis_whole : mg "_law_is_whole" = some (.ref a.a_Lis_whole)
  F_Lis_whole : Fun K "_law_is_whole" "_law_is_whole" s_Lis_whole a.a_Lis_whole a.fd_Lis_whole
  k_Lis_whole : PySem.W.keepIn K (.ref a.a_Lis_whole) = true
  b_Lis_whole : Binds K a.fd_Lis_whole ["_law_thing"] []
  m_Lare_files : mg "_law_are_files" = some (.ref a.a_Lare_files)
  F_Lare_files : Fun K "_law_are_files" "_law_are_files" s_Lare_files a.a_Lare_files a.fd_Lare_files
  k_Lare_files : PySem.W.keepIn K (.ref a.a_Lare_files) = true
  b_Lare_files : Binds K a.fd_Lare_files ["_law_files", "_law_some"] []
  m_Ldue : mg "_law_due" = some (.ref a.a_Ldue)
  F_Ldue : Fun K "_law_due" "_law_due" s_Ldue a.a_Ldue a.fd_Ldue
  k_Ldue : PySem.W.keepIn K (.ref a.a_Ldue) = true
  b_Ldue : Binds K a.fd_Ldue ["_law_files", "_law_thing"] []
  m_Lbent : mg "_law_bent" = some (.ref a.a_Lbent)
  F_Lbent : Fun K "_law_bent" "_law_bent" s_Lbent a.a_Lbent a.fd_Lbent
  k_Lbent : PySem.W.keepIn K (.ref a.a_Lbent) = true
  b_Lbent : Binds K a.fd_Lbent ["_law_bag_here", "_law_call_here"] []
  m_law : mg "law" = some (.ref a.a_law)
  F_law : Fun K "law" "law" s_law a.a_law a.fd_law
  k_law : PySem.W.keepIn K (.ref a.a_law) = true
  b_law : Binds K a.fd_law ["_law_script"] []
  F_Script_init : Fun K "__init__" "Script.__init__" s_Script_init a.a_Script_init a.fd_Script_init
  k_Script_init : PySem.W.keepIn K (.ref a.a_Script_init) = true
  b_Script_init : Binds K a.fd_Script_init ["self", "files", "calls"] []
  m_Script : mg "Script" = some (.ref a.c_Script)
  t_Script : ClsT K a.c_Script
  M_Script : Mk K a.c_Script a.a_Script_init
  A_Script_width : NoAttr K a.c_Script "width"
  A_Script_held : NoAttr K a.c_Script "held"
  g_PARTS : mg "PARTS" = some (.ref a.d_PARTS)
  d_PARTS : KDict K w a.d_PARTS a.es_PARTS a.n_PARTS
  v_PARTS_all : ∃ t, PySem.W.nsIn K a.d_PARTS "all" = some (some (.str "k" t))
  v_PARTS_up : ∃ t, PySem.W.nsIn K a.d_PARTS "up" = some (some (.str "fk" t))
  v_PARTS_swap : ∃ t, PySem.W.nsIn K a.d_PARTS "swap" = some (some (.str "ff" t))
  v_PARTS_wheel : ∃ t, PySem.W.nsIn K a.d_PARTS "wheel" = some (some (.str "ffk" t))
  v_PARTS_about : ∃ t, PySem.W.nsIn K a.d_PARTS "about" = some (some (.str "" t))
  v_PARTS_front : ∃ t, PySem.W.nsIn K a.d_PARTS "front" = some (some (.str "ff" t))
  v_PARTS_halve : ∃ t, PySem.W.nsIn K a.d_PARTS "halve" = some (some (.str "" t))
  v_PARTS_pair : ∃ t, PySem.W.nsIn K a.d_PARTS "pair" = some (some (.str "" t))
  v_PARTS_others : ∃ t, PySem.W.nsIn K a.d_PARTS "others" = some (some (.str "" t))
  v_PARTS_fill : ∃ t, PySem.W.nsIn K a.d_PARTS "fill" = some (some (.str "" t))
  g_UNDOING : mg "UNDOING" = some (.ref a.d_UNDOING)
  d_UNDOING : KDict K w a.d_UNDOING a.es_UNDOING a.n_UNDOING
  v_UNDOING_halve : ∃ t, PySem.W.nsIn K a.d_UNDOING "halve" = some (some (.str "pair" t))
  v_UNDOING_pair : ∃ t, PySem.W.nsIn K a.d_UNDOING "pair" = some (some (.str "halve" t))
  v_UNDOING_others : ∃ t, PySem.W.nsIn K a.d_UNDOING "others" = some (some (.str "fill" t))
  v_UNDOING_fill : ∃ t, PySem.W.nsIn K a.d_UNDOING "fill" = some (some (.str "others" t))
  o_PARTS_0 : PySem.W.nsIn K a.d_PARTS "" = some none
  o_PARTS_1 : PySem.W.nsIn K a.d_PARTS "backs" = some none
  o_PARTS_2 : PySem.W.nsIn K a.d_PARTS "ups" = some none
  o_PARTS_3 : PySem.W.nsIn K a.d_PARTS "round" = some none
  o_PARTS_4 : PySem.W.nsIn K a.d_PARTS "Swap" = some none
  o_PARTS_5 : PySem.W.nsIn K a.d_PARTS "halv" = some none
  o_PARTS_6 : PySem.W.nsIn K a.d_PARTS "All" = some none
  o_PARTS_7 : PySem.W.nsIn K a.d_PARTS "turn" = some none
  o_UNDOING_all : PySem.W.nsIn K a.d_UNDOING "all" = some none
  o_UNDOING_up : PySem.W.nsIn K a.d_UNDOING "up" = some none
  o_UNDOING_swap : PySem.W.nsIn K a.d_UNDOING "swap" = some none
  o_UNDOING_wheel : PySem.W.nsIn K a.d_UNDOING "wheel" = some none
  o_UNDOING_about : PySem.W.nsIn K a.d_UNDOING "about" = some none
  o_UNDOING_front : PySem.W.nsIn K a.d_UNDOING "front" = some none
  n_len : mg "len" = none
  n_abs : mg "abs" = none
  n_int : mg "int" = none
  n_sorted : mg "sorted" = none
  n_list : mg "list" = none
  n_tuple : mg "tuple" = none
  n_range : mg "range" = none
  n_zip : mg "zip" = none
  n_all : mg "all" = none
  n_set : mg "set" = none
  n_isinstance : mg "isinstance" = none
  n_str : mg "str" = none
  n_bool : mg "bool" = none
  n_repr : mg "repr" = none
  n_reversed : mg "reversed" = none
/-- a call -/
inductive C where
  | all (k : Int) | up (f k : Int) | swap (f g : Int) | wheel (f g k : Int) | about | front (f g : Int) | halve | pair | others | fill
def C.vals : C → List V
  | .all k => [.str "all", .int k]
  | .up f k => [.str "up", .int f, .int k]
  | .swap f g => [.str "swap", .int f, .int g]
  | .wheel f g k => [.str "wheel", .int f, .int g, .int k]
  | .about => [.str "about"]
  | .front f g => [.str "front", .int f, .int g]
  | .halve => [.str "halve"]
  | .pair => [.str "pair"]
  | .others => [.str "others"]
  | .fill => [.str "fill"]
def C.straight : C → Bool
  | .halve => false | .pair => false | .others => false | .fill => false | _ => true
def C.turned : C → C
  | .all k => .all (-k) | .up f k => .up f (-k) | .wheel f g k => .wheel f g (-k)
  | .halve => .pair | .pair => .halve | .others => .fill | .fill => .others | q => q
def C.named : C → List Int
  | .up f _ => [f] | .swap f g => [f, g] | .wheel f g _ => [f, g] | .front f g => [f, g] | _ => []
end My

set_option Elab.async false
set_option linter.all false
set_option maxRecDepth 100000
set_option maxHeartbeats 8000000
namespace My
open PySem PySem.Spec PyProof.Rows L2 Sx
local macro_rules | `(tactic| walk_at "nb") => `(tactic| first | exact NB.tup | exact NB.ints | exact NB.len (of_decide_eq_true rfl) | exact NB.at0b rfl | exact NB.at3b rfl | exact NB.ins | exact NB.own | exact NB.frz | exact NB.refs (by assumption) | assumption)
local macro_rules | `(tactic| walk_at "ne") => `(tactic| first | assumption | exact Ne.symm (by assumption) | exact ne_of_none (by assumption) (by assumption) | exact Ne.symm (ne_of_none (by assumption) (by assumption)))
local macro_rules | `(tactic| walk_at "hk") => `(tactic| first
  | assumption
  | exact upd_same
  | (refine' (upd_ne ?hkne).trans ?hkq; (case hkne => walk_at "ne"); (case hkq => walk_at "hk"))
  | (refine' Ex.kp (by assumption) _ _ ?hkq ?hkn; (case hkq => walk_at "hk"); (case hkn => walk_at "nb")))
local macro_rules | `(tactic| walk_at "rd1") => `(tactic| first
  | ((with_reducible refine' x_var ?hx ?_); (case hx => exact rfl))
  | with_reducible refine x_c ?_
  | with_reducible refine x_op ?_
  | with_reducible refine x_un ?_
  | with_reducible refine x_I0 ?_
  | with_reducible refine x_U ?_
  | ((with_reducible refine x_I ?hc ?_); (case hc => first | exact (by decide : (0 : Int) < _) | (show (0 : Int) < _; omega) | (show CMul _ _; first | exact .inl ⟨by omega, by omega⟩ | exact .inr ⟨by omega, by omega⟩) | (show CDiv _ _; exact ⟨by omega, by omega⟩) | (show CDivW _ _; exact wide_div (b := 200) (by omega) (by assumption) (by decide) (by decide)) | (show CDivW _ _; exact wide_div (b := 31) (by omega) (by omega) (by decide) (by decide))))
  | with_reducible refine x_EqI ?_
  | with_reducible refine x_NeI ?_
  | ((with_reducible refine x_EqSt ?h ?_); (case h => decide +kernel))
  | ((with_reducible refine x_EqSf ?h ?_); (case h => decide +kernel))
  | ((with_reducible refine x_NeSt ?h ?_); (case h => decide +kernel))
  | ((with_reducible refine x_NeSf ?h ?_); (case h => decide +kernel))
  | with_reducible refine x_EqS ?_
  | with_reducible refine x_NeS ?_
  | ((with_reducible refine' x_ixL ?hq ?hi ?_); (case hq => walk_at "hk"); (case hi => first | exact rfl | assumption))
  | ((with_reducible refine' x_ixT ?hq ?hi ?_); (case hq => walk_at "hk"); (case hi => first | exact rfl | assumption))
  | with_reducible refine x_chain ?_
  | with_reducible refine x_tup ?_
  | with_reducible refine x_lst ?_
  | ((with_reducible refine x_lenNew ?hl ?_); (case hl => exact Nat.le_of_ble_eq_true rfl); intro _ _ _ _ _)
  | ((with_reducible refine x_new ?_); intro _ _ _ _ _)
  | with_reducible refine x_sl ?_
  | with_reducible refine x_noPart ?_
  | with_reducible refine x_part ?_
  | with_reducible refine x_ex_int ?_
  | with_reducible refine x_ex_bl ?_
  | with_reducible refine x_ex_2 ?_
  | with_reducible refine x_test ?_
  | with_reducible refine x_B ?_
  | with_reducible refine x_and ?_
  | with_reducible refine x_or ?_
  | with_reducible refine x_not ?_
  | with_reducible refine x_andV ?_
  | with_reducible refine x_orV ?_
  | with_reducible refine x_notV ?_
  | with_reducible refine x_ifE ?_
  | with_reducible refine x_iteT ?_
  | with_reducible refine x_iteF ?_
  | ((with_reducible refine x_iteD ?_ ?_) <;> intro _)
  | ((with_reducible refine x_iteN ?_ ?_) <;> intro _)
  | with_reducible refine x_if ?_
  | with_reducible refine x_seq ?_
  | with_reducible refine x_next ?_
  | with_reducible refine x_asg ?_
  | with_reducible refine x_gName ?_
  | ((with_reducible refine' x_gTup ?hq ?hn ?_); (case hq => walk_at "hk"); (case hn => exact rfl))
  | with_reducible refine x_gCons ?_
  | with_reducible refine x_gNil ?_
  | ((with_reducible refine' x_gConsE ?h ?_); (case h => exact rfl))
  | ((with_reducible refine x_gNilE ?h ?_); (case h => exact rfl))
  | with_reducible refine x_ret ?_
  | with_reducible refine x_drop ?_
  | with_reducible refine x_par ?_
  | ((with_reducible refine' x_aug ?hx ?_); (case hx => exact rfl))
  | with_reducible refine x_ipI ?_
  | with_reducible refine x_augS ?_
  | with_reducible refine x_gSub ?_
  | ((with_reducible refine' x_setL ?hq ?hi ?_); (case hq => walk_at "hk"); (case hi => first | exact rfl | assumption))
  | with_reducible refine x_cons ?_
  | with_reducible refine x_nil ?_
  | with_reducible refine x_CB ?_
  | with_reducible refine x_abs ?_
  | with_reducible refine x_intI ?_
  | with_reducible refine x_intB ?_
  | ((with_reducible refine' x_lenL ?hq ?_); (case hq => walk_at "hk"))
  | ((with_reducible refine' x_lenT ?hq ?_); (case hq => walk_at "hk"))
  | ((with_reducible refine x_iteTe ?h ?_); (case h => exact rfl))
  | ((with_reducible refine x_iteFe ?h ?_); (case h => exact rfl))
  | walk_at "use"
  | with_reducible refine x_callS ?_
  | ((with_reducible refine x_lc ?_))
  | ((with_reducible refine x_for ?_))
  | ((with_reducible refine x_iR1 ?_))
  | ((with_reducible refine x_iL ?_))
  | ((with_reducible refine x_iZ ?_))
  | ((with_reducible refine x_yes ?_))
  | ((with_reducible refine' x_NIDt ?hq ?_); (case hq => assumption))
  | ((with_reducible refine' x_NIDf ?hq ?_); (case hq => assumption))
  | ((with_reducible refine' x_IIDf ?hq ?_); (case hq => assumption))
  | ((with_reducible refine' x_IIDt ?hq ?_); (case hq => assumption))
  | ((with_reducible refine' x_ixDs ?hd ?hq ?_); (case hd => assumption); (case hq => assumption))
  | ((with_reducible refine x_InSt ?h ?_); (case h => decide +kernel))
  | ((with_reducible refine x_InSf ?h ?_); (case h => decide +kernel))
  | ((with_reducible refine' x_notInI ?hq ?_); (case hq => walk_at "hk"))
  | ((with_reducible refine' x_inTt ?hq ?hv ?ha ?he ?_); (case hq => walk_at "hk"); (case hv => exact rfl); (case ha => exact rfl); (case he => decide +kernel))
  | ((with_reducible refine' x_inTf ?hq ?hv ?ha ?he ?_); (case hq => walk_at "hk"); (case hv => exact rfl); (case ha => exact rfl); (case he => decide +kernel))
  | ((with_reducible refine' x_slT ?hq ?hw ?_); (case hq => walk_at "hk"); (case hw => with_unfolding_all exact of_decide_eq_true rfl))
  | ((with_reducible refine' x_slL ?hq ?_); (case hq => walk_at "hk"))
  | ((with_reducible refine' x_catT ?hq ?hr ?n1 ?n2 ?hl ?_); (case hq => walk_at "hk"); (case hr => walk_at "hk"); (case n1 => exact List.cons_ne_nil _ _); (case n2 => exact List.cons_ne_nil _ _); (case hl => exact Nat.le_of_ble_eq_true rfl))
  | ((with_reducible refine x_bm ?_))
  | ((with_reducible refine x_lstRg ?_))
  | ((with_reducible refine x_rg1 ?_))
  | ((with_reducible refine And.intro ?h ?_); (case h => exact tyL (by assumption)))
  | dsimp only)
local macro_rules | `(tactic| walk_at "use") => `(tactic| fail)
local macro_rules | `(tactic| walk_at "rd") => `(tactic| repeat' (walk_at "rd1"))
local macro_rules | `(tactic| walk_at "ex") => `(tactic| first | exact Ex.refl _ | assumption | (refine' Ex.trans ?he (by assumption); (case he => walk_at "ex")))

section
variable {P : Program} {w : World} {K : PySem.W.Frag} {mg : Str → Option Value} {base : Heap} {a : Ad} {H : Hp} {Q : VK} {E : XK} {p b : Addr} {q : C}
/-- of the pairs of a text and a list: the ints beside an f -/
def sel (cs : List Nat) (ys : List Int) : List Int := ((cs.zip ys).filter (fun c => c.1 == 102)).map (·.2)
theorem sel_succ {cs : List Nat} {ys : List Int} {i c : Nat} {y : Int} (h1 : cs[i]? = some c) (h2 : ys[i]? = some y) : sel (cs.take (i + 1)) (ys.take (i + 1)) = sel (cs.take i) (ys.take i) ++ (if c = 102 then [y] else []) := by
  unfold sel
  rw [List.take_add_one, List.take_add_one, h1, h2]
  have hl : (cs.take i).length = (ys.take i).length := by
    have a1 := (List.getElem?_eq_some_iff.mp h1).1
    have a2 := (List.getElem?_eq_some_iff.mp h2).1
    rw [List.length_take, List.length_take]
    omega
  rw [show (some c).toList = [c] from rfl, show (some y).toList = [y] from rfl, List.zip_append hl, List.filter_append, List.map_append]
  congr 1
  by_cases e : c = 102
  · subst e; rfl
  · rw [if_neg e]
    simp [e]
theorem sel_len (cs : List Nat) (ys : List Int) : (sel cs ys).length ≤ ys.length := by
  unfold sel
  rw [List.length_map]
  refine Nat.le_trans (List.length_filter_le _ _) ?_
  rw [List.length_zip]
  exact Nat.min_le_right _ _
theorem str1_eq {c : Nat} : (⟨#[c]⟩ : Str) = "f" ↔ c = 102 := by
  constructor
  · intro h
    have e : (⟨#[c]⟩ : Str).cps = (Str.ofString "f").cps := congrArg Str.cps h
    have e2 : (Str.ofString "f").cps = #[102] := by decide +kernel
    rw [e2] at e
    have e3 : #[c] = #[102] := e
    simpa using e3
  · rintro rfl
    decide +kernel
theorem zip_f {σ : L2.St} {x : Str} {ys : List Int} {H1 : Hp} {b : Addr} (hx : H1 b = some (.tup (ys.map V.int))) (hn : x.cps.size = ys.length) (h4 : ys.length ≤ 1000)
    (hσ : ∀ u v, (((wipe σ [1, 2]).set 1 (some u)).set 2 (some v))[1]? = some (some u) ∧ (((wipe σ [1, 2]).set 1 (some u)).set 2 (some v))[2]? = some (some v) ∧ wipe (((wipe σ [1, 2]).set 1 (some u)).set 2 (some v)) [1, 2] = wipe σ [1, 2])
    (k : ∀ p H2, Ex H1 H2 → H1 p = none → H2 p = some (.lst ((sel x.cps.toList ys).map V.int)) → Q (.ref p) H2) :
    ZK K [.str x, .ref b] H1 fun J H2 => LcGo J (gTup K 2 (gCons (gName 1) (gCons (gName 2) gNil))) (tTest (tOp rEq (tVar 1) (tC (.str "f")))) (tVar 2) [1, 2] σ H2 Q := by
  refine lc_zip (n := ys.length) (.inl ⟨hn, by rw [List.length_map]; exact Nat.le_refl _⟩) hx (fun i acc _ => acc = (sel (x.cps.toList.take i) (ys.take i)).map V.int) (by simp [sel]) (fun _ _ _ _ _ h => h) (fun i acc _ h => ?_) (fun u v => (hσ u v).2.2) (fun i c y acc H' hc hy e hI kk k1 k2 => ?_) (fun p zs H2 e hp hz hI => ?_)
  · subst h
    refine ⟨NB.ints, ?_⟩
    rw [List.length_map]
    have a1 := sel_len (x.cps.toList.take i) (ys.take i)
    have a2 : (ys.take i).length ≤ ys.length := List.length_take_le' _ _
    exact Nat.lt_of_le_of_lt (Nat.le_trans a1 (Nat.le_trans a2 h4)) (by decide)
  · obtain ⟨s1, s2, _⟩ := hσ (.str ⟨#[c]⟩) y
    rw [List.getElem?_map] at hy
    cases hy' : ys[i]? with
    | none => rw [hy'] at hy; cases hy
    | some n =>
      rw [hy'] at hy
      have en : V.int n = y := Option.some.inj hy
      subst en
      have hc' : x.cps.toList[i]? = some c := by simpa using hc
      have st := sel_succ hc' hy'
      refine x_test (x_op (x_var s1 (x_c (x_EqS (x_ex_bl (x_iteD (fun h => ?_) (fun h => ?_)))))))
      · refine x_var s2 (k1 _ _ (Ex.refl _) ?_)
        rw [st, if_pos (str1_eq.mp h), List.map_append, hI]
        rfl
      · refine k2 _ (Ex.refl _) ?_
        rw [st, if_neg (fun q => h (str1_eq.mpr q)), List.append_nil, hI]
  · refine k p H2 e hp ?_
    rw [hz, hI, List.take_of_length_le (by rw [Array.length_toList, hn]; exact Nat.le_refl _), List.take_of_length_le (Nat.le_refl _)]
/-! files_of -/
def sp_files_of : Sp := fun vs H Q _ => ∃ (p : Addr) (q : C), vs = [.ref p] ∧ H p = some (.tup q.vals) ∧ ∀ p1 (ns : List Int) H1, Ex H H1 → H1 p1 = some (.lst (ns.map V.int)) → ns.Perm q.named → ns.Pairwise (· ≤ ·) → Q (.ref p1) H1
theorem u_files_of (h : H p = some (.tup q.vals)) (k : ∀ p1 (ns : List Int) H1, Ex H H1 → H1 p1 = some (.lst (ns.map V.int)) → ns.Perm q.named → ns.Pairwise (· ≤ ·) → Q (.ref p1) H1) : sp_files_of [.ref p] H Q E := ⟨p, q, rfl, h, k⟩
theorem ok_files_of (T : Txt K w mg a) : FnOk P w K mg base CX0 1 a.a_files_of a.fd_files_of ["call"] sp_files_of := by
  refine T.F_files_of.ok sc_files_of (fun vs H Q E h => ?_) (fun cdv A outer s H vs Q E hr h => ?_)
  · obtain ⟨p, q, rfl, _⟩ := h; rfl
  · obtain ⟨p, q, rfl, hp, k⟩ := h
    refine ⟨_, (pss_one (ps_ret (pe_callB cr_sorted (by rfl) T.n_sorted (by decide +kernel) (pa_cons (pe_lc (own := [("part", 1), ("item", 2)]) rfl sc_files_of.nd (Zst.pi_zipS (by rfl) T.n_zip (pa_cons (pe_ix ix_kdict (pe_glob (v := .ref a.d_PARTS) (by rfl) T.g_PARTS rfl) (pe_ix ix_tup (pv 0) pe_int (fun _ _ => rfl)) (fun _ _ => rfl)) (pa_cons (pe_slice sl_tup (pv 0) (po_some pe_int) po_none) pa_nil))) (blkOk_by (own := [("part", 1), ("item", 2)]) (N := ["call", "part", "item"]) (sc := defScope s_files_of) (by decide +kernel)) (fun _ _ _ _ _ => (pg_tupB (n := 2) rfl (pgs_cons (pg_name (i := 1) sc_files_of.nd rfl (Or.inl rfl) (Or.inr rfl)) (pgs_cons (pg_name (i := 2) sc_files_of.nd rfl (Or.inl rfl) (Or.inr rfl)) pgs_nil)))) (fun _ _ _ _ _ => (pts_one (pt_cmpR op_eq (pv 1) pe_str (nomark _)))) (fun _ _ _ _ _ => (pv 2))) pa_nil)))), ?_⟩
    have d_PARTS := T.d_PARTS
    have v_PARTS_all := T.v_PARTS_all
    obtain ⟨_, w_PARTS_all⟩ := T.v_PARTS_all
    have v_PARTS_up := T.v_PARTS_up
    obtain ⟨_, w_PARTS_up⟩ := T.v_PARTS_up
    have v_PARTS_swap := T.v_PARTS_swap
    obtain ⟨_, w_PARTS_swap⟩ := T.v_PARTS_swap
    have v_PARTS_wheel := T.v_PARTS_wheel
    obtain ⟨_, w_PARTS_wheel⟩ := T.v_PARTS_wheel
    have v_PARTS_about := T.v_PARTS_about
    obtain ⟨_, w_PARTS_about⟩ := T.v_PARTS_about
    have v_PARTS_front := T.v_PARTS_front
    obtain ⟨_, w_PARTS_front⟩ := T.v_PARTS_front
    have v_PARTS_halve := T.v_PARTS_halve
    obtain ⟨_, w_PARTS_halve⟩ := T.v_PARTS_halve
    have v_PARTS_pair := T.v_PARTS_pair
    obtain ⟨_, w_PARTS_pair⟩ := T.v_PARTS_pair
    have v_PARTS_others := T.v_PARTS_others
    obtain ⟨_, w_PARTS_others⟩ := T.v_PARTS_others
    have v_PARTS_fill := T.v_PARTS_fill
    obtain ⟨_, w_PARTS_fill⟩ := T.v_PARTS_fill
    have o_PARTS_0 := T.o_PARTS_0
    have o_PARTS_1 := T.o_PARTS_1
    have o_PARTS_2 := T.o_PARTS_2
    have o_PARTS_3 := T.o_PARTS_3
    have o_PARTS_4 := T.o_PARTS_4
    have o_PARTS_5 := T.o_PARTS_5
    have o_PARTS_6 := T.o_PARTS_6
    have o_PARTS_7 := T.o_PARTS_7
    have d_UNDOING := T.d_UNDOING
    have v_UNDOING_halve := T.v_UNDOING_halve
    obtain ⟨_, w_UNDOING_halve⟩ := T.v_UNDOING_halve
    have v_UNDOING_pair := T.v_UNDOING_pair
    obtain ⟨_, w_UNDOING_pair⟩ := T.v_UNDOING_pair
    have v_UNDOING_others := T.v_UNDOING_others
    obtain ⟨_, w_UNDOING_others⟩ := T.v_UNDOING_others
    have v_UNDOING_fill := T.v_UNDOING_fill
    obtain ⟨_, w_UNDOING_fill⟩ := T.v_UNDOING_fill
    have o_UNDOING_all := T.o_UNDOING_all
    have o_UNDOING_up := T.o_UNDOING_up
    have o_UNDOING_swap := T.o_UNDOING_swap
    have o_UNDOING_wheel := T.o_UNDOING_wheel
    have o_UNDOING_about := T.o_UNDOING_about
    have o_UNDOING_front := T.o_UNDOING_front
    have fin : ∀ {H1 : Hp} {ns : List Int} {p1 : Addr}, Ex H H1 → ns = q.named → ns.length < 64 → H1 p1 = some (.lst (ns.map V.int)) → rSorted K [.ref p1] H1 Q := by
      intro H1 ns p1 e en hl h1
      refine x_sorted h1 hl fun ns' p2 H2 g1 g2 g3 g4 g5 => k _ _ _ (e.trans g3) g5 (en ▸ g1) g2
    cases q <;> (walk_at "rd")
    all_goals rename_i h
    · refine zip_f (ys := [_]) h rfl (Nat.le_of_ble_eq_true rfl) (fun u v => ⟨rfl, rfl, rfl⟩) fun p1 H2 e1 e2 e3 => ?_
      exact fin (by walk_at "ex") rfl (Nat.le_of_ble_eq_true rfl) e3
    · refine zip_f (ys := [_, _]) h rfl (Nat.le_of_ble_eq_true rfl) (fun u v => ⟨rfl, rfl, rfl⟩) fun p1 H2 e1 e2 e3 => ?_
      exact fin (by walk_at "ex") rfl (Nat.le_of_ble_eq_true rfl) e3
    · refine zip_f (ys := [_, _]) h rfl (Nat.le_of_ble_eq_true rfl) (fun u v => ⟨rfl, rfl, rfl⟩) fun p1 H2 e1 e2 e3 => ?_
      exact fin (by walk_at "ex") rfl (Nat.le_of_ble_eq_true rfl) e3
    · refine zip_f (ys := [_, _, _]) h rfl (Nat.le_of_ble_eq_true rfl) (fun u v => ⟨rfl, rfl, rfl⟩) fun p1 H2 e1 e2 e3 => ?_
      exact fin (by walk_at "ex") rfl (Nat.le_of_ble_eq_true rfl) e3
    · refine zip_f (ys := []) h rfl (Nat.le_of_ble_eq_true rfl) (fun u v => ⟨rfl, rfl, rfl⟩) fun p1 H2 e1 e2 e3 => ?_
      exact fin (by walk_at "ex") rfl (Nat.le_of_ble_eq_true rfl) e3
    · refine zip_f (ys := [_, _]) h rfl (Nat.le_of_ble_eq_true rfl) (fun u v => ⟨rfl, rfl, rfl⟩) fun p1 H2 e1 e2 e3 => ?_
      exact fin (by walk_at "ex") rfl (Nat.le_of_ble_eq_true rfl) e3
    all_goals
      refine zip_f (ys := []) h rfl (Nat.le_of_ble_eq_true rfl) (fun u v => ⟨rfl, rfl, rfl⟩) fun p1 H2 e1 e2 e3 => ?_
      exact fin (by walk_at "ex") rfl (Nat.le_of_ble_eq_true rfl) e3
end
end My

set_option Elab.async false
set_option linter.all false
set_option maxRecDepth 100000
set_option maxHeartbeats 8000000
namespace My
open PySem PySem.Spec PyProof.Rows L2 Sx
local macro_rules | `(tactic| walk_at "nb") => `(tactic| first | exact NB.tup | exact NB.ints | exact NB.len (of_decide_eq_true rfl) | exact NB.at0b rfl | exact NB.at3b rfl | exact NB.ins | exact NB.own | exact NB.frz | exact NB.refs (by assumption) | assumption)
local macro_rules | `(tactic| walk_at "ne") => `(tactic| first | assumption | exact Ne.symm (by assumption) | exact ne_of_none (by assumption) (by assumption) | exact Ne.symm (ne_of_none (by assumption) (by assumption)))
local macro_rules | `(tactic| walk_at "hk") => `(tactic| first
  | assumption
  | exact upd_same
  | (refine' (upd_ne ?hkne).trans ?hkq; (case hkne => walk_at "ne"); (case hkq => walk_at "hk"))
  | (refine' Ex.kp (by assumption) _ _ ?hkq ?hkn; (case hkq => walk_at "hk"); (case hkn => walk_at "nb")))
local macro_rules | `(tactic| walk_at "rd1") => `(tactic| first
  | ((with_reducible refine' x_var ?hx ?_); (case hx => exact rfl))
  | with_reducible refine x_c ?_
  | with_reducible refine x_op ?_
  | with_reducible refine x_un ?_
  | with_reducible refine x_I0 ?_
  | with_reducible refine x_U ?_
  | ((with_reducible refine x_I ?hc ?_); (case hc => first | exact (by decide : (0 : Int) < _) | (show (0 : Int) < _; omega) | (show CMul _ _; first | exact .inl ⟨by omega, by omega⟩ | exact .inr ⟨by omega, by omega⟩) | (show CDiv _ _; exact ⟨by omega, by omega⟩) | (show CDivW _ _; exact wide_div (b := 200) (by omega) (by assumption) (by decide) (by decide)) | (show CDivW _ _; exact wide_div (b := 31) (by omega) (by omega) (by decide) (by decide))))
  | with_reducible refine x_EqI ?_
  | with_reducible refine x_NeI ?_
  | ((with_reducible refine x_EqSt ?h ?_); (case h => decide +kernel))
  | ((with_reducible refine x_EqSf ?h ?_); (case h => decide +kernel))
  | ((with_reducible refine x_NeSt ?h ?_); (case h => decide +kernel))
  | ((with_reducible refine x_NeSf ?h ?_); (case h => decide +kernel))
  | with_reducible refine x_EqS ?_
  | with_reducible refine x_NeS ?_
  | ((with_reducible refine' x_ixL ?hq ?hi ?_); (case hq => walk_at "hk"); (case hi => first | exact rfl | assumption))
  | ((with_reducible refine' x_ixT ?hq ?hi ?_); (case hq => walk_at "hk"); (case hi => first | exact rfl | assumption))
  | with_reducible refine x_chain ?_
  | with_reducible refine x_tup ?_
  | with_reducible refine x_lst ?_
  | ((with_reducible refine x_lenNew ?hl ?_); (case hl => exact Nat.le_of_ble_eq_true rfl); intro _ _ _ _ _)
  | ((with_reducible refine x_new ?_); intro _ _ _ _ _)
  | with_reducible refine x_sl ?_
  | with_reducible refine x_noPart ?_
  | with_reducible refine x_part ?_
  | with_reducible refine x_ex_int ?_
  | with_reducible refine x_ex_bl ?_
  | with_reducible refine x_ex_2 ?_
  | with_reducible refine x_test ?_
  | with_reducible refine x_B ?_
  | with_reducible refine x_and ?_
  | with_reducible refine x_or ?_
  | with_reducible refine x_not ?_
  | with_reducible refine x_andV ?_
  | with_reducible refine x_orV ?_
  | with_reducible refine x_notV ?_
  | with_reducible refine x_ifE ?_
  | with_reducible refine x_iteT ?_
  | with_reducible refine x_iteF ?_
  | ((with_reducible refine x_iteD ?_ ?_) <;> intro _)
  | ((with_reducible refine x_iteN ?_ ?_) <;> intro _)
  | with_reducible refine x_if ?_
  | with_reducible refine x_seq ?_
  | with_reducible refine x_next ?_
  | with_reducible refine x_asg ?_
  | with_reducible refine x_gName ?_
  | ((with_reducible refine' x_gTup ?hq ?hn ?_); (case hq => walk_at "hk"); (case hn => exact rfl))
  | with_reducible refine x_gCons ?_
  | with_reducible refine x_gNil ?_
  | ((with_reducible refine' x_gConsE ?h ?_); (case h => exact rfl))
  | ((with_reducible refine x_gNilE ?h ?_); (case h => exact rfl))
  | with_reducible refine x_ret ?_
  | with_reducible refine x_drop ?_
  | with_reducible refine x_par ?_
  | ((with_reducible refine' x_aug ?hx ?_); (case hx => exact rfl))
  | with_reducible refine x_ipI ?_
  | with_reducible refine x_augS ?_
  | with_reducible refine x_gSub ?_
  | ((with_reducible refine' x_setL ?hq ?hi ?_); (case hq => walk_at "hk"); (case hi => first | exact rfl | assumption))
  | with_reducible refine x_cons ?_
  | with_reducible refine x_nil ?_
  | with_reducible refine x_CB ?_
  | with_reducible refine x_abs ?_
  | with_reducible refine x_intI ?_
  | with_reducible refine x_intB ?_
  | ((with_reducible refine' x_lenL ?hq ?_); (case hq => walk_at "hk"))
  | ((with_reducible refine' x_lenT ?hq ?_); (case hq => walk_at "hk"))
  | ((with_reducible refine x_iteTe ?h ?_); (case h => exact rfl))
  | ((with_reducible refine x_iteFe ?h ?_); (case h => exact rfl))
  | walk_at "use"
  | with_reducible refine x_callS ?_
  | ((with_reducible refine x_lc ?_))
  | ((with_reducible refine x_for ?_))
  | ((with_reducible refine x_iR1 ?_))
  | ((with_reducible refine x_iL ?_))
  | ((with_reducible refine x_iZ ?_))
  | ((with_reducible refine x_yes ?_))
  | ((with_reducible refine' x_NIDt ?hq ?_); (case hq => assumption))
  | ((with_reducible refine' x_NIDf ?hq ?_); (case hq => assumption))
  | ((with_reducible refine' x_IIDf ?hq ?_); (case hq => assumption))
  | ((with_reducible refine' x_IIDt ?hq ?_); (case hq => assumption))
  | ((with_reducible refine' x_ixDs ?hd ?hq ?_); (case hd => assumption); (case hq => assumption))
  | ((with_reducible refine x_InSt ?h ?_); (case h => decide +kernel))
  | ((with_reducible refine x_InSf ?h ?_); (case h => decide +kernel))
  | ((with_reducible refine' x_notInI ?hq ?_); (case hq => walk_at "hk"))
  | ((with_reducible refine' x_inTt ?hq ?hv ?ha ?he ?_); (case hq => walk_at "hk"); (case hv => exact rfl); (case ha => exact rfl); (case he => decide +kernel))
  | ((with_reducible refine' x_inTf ?hq ?hv ?ha ?he ?_); (case hq => walk_at "hk"); (case hv => exact rfl); (case ha => exact rfl); (case he => decide +kernel))
  | ((with_reducible refine' x_slT ?hq ?hw ?_); (case hq => walk_at "hk"); (case hw => with_unfolding_all exact of_decide_eq_true rfl))
  | ((with_reducible refine' x_slL ?hq ?_); (case hq => walk_at "hk"))
  | ((with_reducible refine' x_catT ?hq ?hr ?n1 ?n2 ?hl ?_); (case hq => walk_at "hk"); (case hr => walk_at "hk"); (case n1 => exact List.cons_ne_nil _ _); (case n2 => exact List.cons_ne_nil _ _); (case hl => exact Nat.le_of_ble_eq_true rfl))
  | ((with_reducible refine x_bm ?_))
  | ((with_reducible refine x_lstRg ?_))
  | ((with_reducible refine x_rg1 ?_))
  | ((with_reducible refine And.intro ?h ?_); (case h => exact tyL (by assumption)))
  | dsimp only)
local macro_rules | `(tactic| walk_at "use") => `(tactic| fail)
local macro_rules | `(tactic| walk_at "rd") => `(tactic| repeat' (walk_at "rd1"))
local macro_rules | `(tactic| walk_at "ex") => `(tactic| first | exact Ex.refl _ | assumption | (refine' Ex.trans ?he (by assumption); (case he => walk_at "ex")))
local macro_rules | `(tactic| walk_at "rd1") => `(tactic| first
  | ((with_reducible refine x_iteDf ?h ?_); (case h => exact rfl))
  | ((with_reducible refine x_iteDt ?h ?_); (case h => exact rfl))
  | ((with_reducible refine x_iteNf ?h ?_); (case h => exact rfl))
  | ((with_reducible refine x_iteNt ?h ?_); (case h => exact rfl))
  | ((with_reducible refine x_isiI (r := true) ?h ?_); (case h => decide +kernel))
  | ((with_reducible refine x_isiI (r := false) ?h ?_); (case h => decide +kernel))
  | ((with_reducible refine x_isiS (r := true) ?h ?_); (case h => decide +kernel))
  | ((with_reducible refine x_isiS (r := false) ?h ?_); (case h => decide +kernel))
  | ((with_reducible refine x_isiB (r := true) ?h ?_); (case h => decide +kernel))
  | ((with_reducible refine x_isiB (r := false) ?h ?_); (case h => decide +kernel))
  | ((with_reducible refine' x_isiT (r := true) ?hp ?h ?_); (case hp => walk_at "hk"); (case h => decide +kernel))
  | ((with_reducible refine' x_isiT (r := false) ?hp ?h ?_); (case hp => walk_at "hk"); (case h => decide +kernel))
  | ((with_reducible refine' x_isiL (r := true) ?hp ?h ?_); (case hp => walk_at "hk"); (case h => decide +kernel))
  | ((with_reducible refine' x_isiL (r := false) ?hp ?h ?_); (case hp => walk_at "hk"); (case h => decide +kernel))
  | ((with_reducible refine' x_isi2L ?hp ?hl ?_); (case hp => walk_at "hk"); (case hl => walk_at "hk"))
  | ((with_reducible refine' x_isi2T ?hp ?hl ?_); (case hp => walk_at "hk"); (case hl => walk_at "hk"))
  | ((with_reducible refine' x_tupOfL ?hq ?_); (case hq => walk_at "hk"))
  | ((with_reducible refine' x_tupOfT ?hq ?_); (case hq => walk_at "hk"))
  | ((with_reducible refine x_lenS ?h ?_); (case h => exact Nat.le_of_ble_eq_true rfl))
  | ((with_reducible refine' x_all ?hq ?_); (case hq => walk_at "hk"))
  | with_reducible refine x_lenSet ?_)

/-- of an int by g, of all else False -/
def ofI (g : Int → Bool) : V → Bool
  | .int i => g i
  | _ => false
theorem isI_ex {v : V} (h : isI v = true) : ∃ i, v = .int i := by
  cases v with
  | int i => exact ⟨i, rfl⟩
  | _ => cases h
theorem ofI_no {g : Int → Bool} {v : V} (h : isI v = false) : ofI g v = false := by
  cases v with
  | int i => cases h
  | _ => rfl
theorem isI_of {v : V} (h : (isI v || isBl v) = true) : (!isBl v) = isI v := by
  cases v <;> simp_all [isI, isBl]
theorem isI_no {v : V} (h : (isI v || isBl v) = false) : isI v = false := by
  cases v <;> simp_all [isI, isBl]
section
variable {P : Program} {w : World} {K : PySem.W.Frag} {mg : Str → Option Value} {base : Heap} {a : Ad} {H : Hp} {Q : VK} {E : XK} {p b : Addr} {v : V}
/-! is_integer, of any value -/
def sp_is_integer (K : PySem.W.Frag) : Sp := fun vs H Q _ => ∃ v : V, vs = [v] ∧ Thing K H v ∧ Q (.bl (isI v)) H
theorem u_is_integer (t : Thing K H v) (k : Q (.bl (isI v)) H) : sp_is_integer K [v] H Q E := ⟨v, rfl, t, k⟩
theorem u_is_integerI {i : Int} (k : Q (.bl true) H) : sp_is_integer K [.int i] H Q E := ⟨_, rfl, .int i, k⟩
theorem ok_is_integer (T : Txt K w mg a) : FnOk P w K mg base CX0 1 a.a_is_integer a.fd_is_integer ["thing"] (sp_is_integer K) := by
  refine T.F_is_integer.ok sc_is_integer (fun vs H Q E h => ?_) (fun cdv A outer s H vs Q E hr h => ?_)
  · obtain ⟨i, rfl, _⟩ := h; rfl
  · obtain ⟨v, rfl, t, k⟩ := h
    obtain ⟨bT, bL, bD, kd⟩ := t.kinds
    refine ⟨_, (pss_one (ps_ret (pe_and (pe_callB call_isi (by rfl) T.n_isinstance (by decide +kernel) (pa_cons (pv 0) (pa_cons (pe_bltn (v := .ty "int") (u := .type "int") (by rfl) T.n_int (by decide +kernel) rfl) pa_nil))) (pe_one (pe_not (pe_callB call_isi (by rfl) T.n_isinstance (by decide +kernel) (pa_cons (pv 0) (pa_cons (pe_bltn (v := .ty "bool") (u := .type "bool") (by rfl) T.n_bool (by decide +kernel) rfl) pa_nil)))))))), ?_⟩
    walk_at "rd"
    refine x_isiInt kd ?_
    refine x_ex_bl (x_iteB (fun h => ?_) (fun h => ?_))
    · walk_at "rd"
      refine x_isiBool kd (x_ex_bl ?_)
      rw [isI_of h]
      exact k
    · rw [isI_no h] at k
      exact k
/-! is_files -/
def sp_is_files (K : PySem.W.Frag) : Sp := fun vs H Q _ => ∃ v : V, vs = [v] ∧ Thing K H v ∧ Q (.bl (ofI (fun i => decide (2 ≤ i ∧ i ≤ 3)) v)) H
theorem u_is_files (t : Thing K H v) (k : Q (.bl (ofI (fun i => decide (2 ≤ i ∧ i ≤ 3)) v)) H) : sp_is_files K [v] H Q E := ⟨v, rfl, t, k⟩
theorem u_is_filesI {i : Int} (k : Q (.bl (decide (2 ≤ i ∧ i ≤ 3))) H) : sp_is_files K [.int i] H Q E := ⟨_, rfl, .int i, k⟩
theorem ok_is_files (T : Txt K w mg a) : FnOk P w K mg base CX0 2 a.a_is_files a.fd_is_files ["thing"] (sp_is_files K) := by
  refine T.F_is_files.ok sc_is_files (fun vs H Q E h => ?_) (fun cdv A outer s H vs Q E hr h => ?_)
  · obtain ⟨i, rfl, _⟩ := h; rfl
  · obtain ⟨v, rfl, t, k⟩ := h
    have G_is_integer := ok_is_integer (P := P) (base := base) T
    refine ⟨_, (pss_one (ps_ret (pe_and (pe_call G_is_integer (hr.mono (by decide)) (by rfl) T.m_is_integer T.k_is_integer T.b_is_integer .nil pass0 (pa_cons (pv 0) pa_nil)) (pe_one (pe_chain op_le op_le pe_int (pv 0) pe_int))))), ?_⟩
    walk_at "rd"
    refine u_is_integer t (x_ex_bl (x_iteB (fun h => ?_) (fun h => ?_)))
    · obtain ⟨i, rfl⟩ := isI_ex h
      replace k : Q (.bl (decide (2 ≤ i ∧ i ≤ 3))) H := k
      walk_at "rd"
      · rename_i h; simpa [h] using k
      · rename_i h; simpa [h] using k
    · rw [ofI_no h] at k
      exact k
/-! is_index -/
def sp_is_index (K : PySem.W.Frag) : Sp := fun vs H Q _ => ∃ (v : V) (n : Int), vs = [v, .int n] ∧ Thing K H v ∧ Q (.bl (ofI (fun i => decide (0 ≤ i ∧ i < n)) v)) H
theorem u_is_index {n : Int} (t : Thing K H v) (k : Q (.bl (ofI (fun i => decide (0 ≤ i ∧ i < n)) v)) H) : sp_is_index K [v, .int n] H Q E := ⟨v, n, rfl, t, k⟩
theorem u_is_indexI {i n : Int} (k : Q (.bl (decide (0 ≤ i ∧ i < n))) H) : sp_is_index K [.int i, .int n] H Q E := ⟨_, n, rfl, .int i, k⟩
theorem ok_is_index (T : Txt K w mg a) : FnOk P w K mg base CX0 2 a.a_is_index a.fd_is_index ["thing", "many"] (sp_is_index K) := by
  refine T.F_is_index.ok sc_is_index (fun vs H Q E h => ?_) (fun cdv A outer s H vs Q E hr h => ?_)
  · obtain ⟨i, n, rfl, _⟩ := h; rfl
  · obtain ⟨v, n, rfl, t, k⟩ := h
    have G_is_integer := ok_is_integer (P := P) (base := base) T
    refine ⟨_, (pss_one (ps_ret (pe_and (pe_call G_is_integer (hr.mono (by decide)) (by rfl) T.m_is_integer T.k_is_integer T.b_is_integer .nil pass0 (pa_cons (pv 0) pa_nil)) (pe_one (pe_chain op_le op_lt pe_int (pv 0) (pv 1)))))), ?_⟩
    walk_at "rd"
    refine u_is_integer t (x_ex_bl (x_iteB (fun h => ?_) (fun h => ?_)))
    · obtain ⟨i, rfl⟩ := isI_ex h
      replace k : Q (.bl (decide (0 ≤ i ∧ i < n))) H := k
      walk_at "rd"
      · rename_i h; simpa [h] using k
      · rename_i h; simpa [h] using k
    · rw [ofI_no h] at k
      exact k
/-! is_part, of any value -/
def fB (files : Int) (x : V) : Bool := ofI (fun i => decide (0 ≤ i ∧ i < files)) x
def kB (x : V) : Bool := ofI (fun i => !decide (i = 0)) x
def partB (files : Int) (part : Str) (x : V) : Bool := if part = "f" then fB files x else kB x
def sp_is_part (K : PySem.W.Frag) : Sp := fun vs H Q _ => ∃ (files : Int) (part : Str) (v : V), vs = [.int files, .str part, v] ∧ Thing K H v ∧ Q (.bl (partB files part v)) H
theorem u_is_part {files : Int} {part : Str} (t : Thing K H v) (k : Q (.bl (partB files part v)) H) : sp_is_part K [.int files, .str part, v] H Q E := ⟨files, part, v, rfl, t, k⟩
theorem ok_is_part (T : Txt K w mg a) : FnOk P w K mg base CX0 3 a.a_is_part a.fd_is_part ["files", "part", "item"] (sp_is_part K) := by
  refine T.F_is_part.ok sc_is_part (fun vs H Q E h => ?_) (fun cdv A outer s H vs Q E hr h => ?_)
  · obtain ⟨f, x, i, rfl, _⟩ := h; rfl
  · obtain ⟨f, x, v, rfl, t, k⟩ := h
    have G_is_integer := ok_is_integer (P := P) (base := base) T
    have G_is_index := ok_is_index (P := P) (base := base) T
    unfold partB at k
    refine ⟨_, (pss_cons (ps_if (pt_cmpR op_eq (pv 1) pe_str (nomark _)) (pss_one (ps_ret (pe_call G_is_index (hr.mono (by decide)) (by rfl) T.m_is_index T.k_is_index T.b_is_index .nil pass0 (pa_cons (pv 2) (pa_cons (pv 0) pa_nil))))) pss_nil)
      (pss_one (ps_ret (pe_and (pe_call G_is_integer (hr.mono (by decide)) (by rfl) T.m_is_integer T.k_is_integer T.b_is_integer .nil pass0 (pa_cons (pv 2) pa_nil)) (pe_one (pe_cmpR op_ne (pv 2) pe_int (nomark _))))))), ?_⟩
    walk_at "rd"
    · rename_i h
      rw [if_pos h] at k
      exact u_is_index t k
    · rename_i h
      rw [if_neg h] at k
      refine u_is_integer t (x_ex_bl (x_iteB (fun h => ?_) (fun h => ?_)))
      · obtain ⟨i, rfl⟩ := isI_ex h
        replace k : Q (.bl (!decide (i = 0))) H := k
        walk_at "rd"
        all_goals first | exact k | (rename_i h0; simpa [h0] using k)
      · rw [show kB v = false from ofI_no h] at k
        exact k
end
end My

set_option Elab.async false
set_option linter.all false
set_option maxRecDepth 100000
set_option maxHeartbeats 8000000
namespace My
open PySem PySem.Spec PyProof.Rows L2 Sx
local macro_rules | `(tactic| walk_at "nb") => `(tactic| first | exact NB.tup | exact NB.ints | exact NB.len (of_decide_eq_true rfl) | exact NB.at0b rfl | exact NB.at3b rfl | exact NB.ins | exact NB.own | exact NB.frz | exact NB.refs (by assumption) | assumption)
local macro_rules | `(tactic| walk_at "ne") => `(tactic| first | assumption | exact Ne.symm (by assumption) | exact ne_of_none (by assumption) (by assumption) | exact Ne.symm (ne_of_none (by assumption) (by assumption)))
local macro_rules | `(tactic| walk_at "hk") => `(tactic| first
  | assumption
  | exact upd_same
  | (refine' (upd_ne ?hkne).trans ?hkq; (case hkne => walk_at "ne"); (case hkq => walk_at "hk"))
  | (refine' Ex.kp (by assumption) _ _ ?hkq ?hkn; (case hkq => walk_at "hk"); (case hkn => walk_at "nb")))
local macro_rules | `(tactic| walk_at "rd1") => `(tactic| first
  | ((with_reducible refine' x_var ?hx ?_); (case hx => exact rfl))
  | with_reducible refine x_c ?_
  | with_reducible refine x_op ?_
  | with_reducible refine x_un ?_
  | with_reducible refine x_I0 ?_
  | with_reducible refine x_U ?_
  | ((with_reducible refine x_I ?hc ?_); (case hc => first | exact (by decide : (0 : Int) < _) | (show (0 : Int) < _; omega) | (show CMul _ _; first | exact .inl ⟨by omega, by omega⟩ | exact .inr ⟨by omega, by omega⟩) | (show CDiv _ _; exact ⟨by omega, by omega⟩) | (show CDivW _ _; exact wide_div (b := 200) (by omega) (by assumption) (by decide) (by decide)) | (show CDivW _ _; exact wide_div (b := 31) (by omega) (by omega) (by decide) (by decide))))
  | with_reducible refine x_EqI ?_
  | with_reducible refine x_NeI ?_
  | ((with_reducible refine x_EqSt ?h ?_); (case h => decide +kernel))
  | ((with_reducible refine x_EqSf ?h ?_); (case h => decide +kernel))
  | ((with_reducible refine x_NeSt ?h ?_); (case h => decide +kernel))
  | ((with_reducible refine x_NeSf ?h ?_); (case h => decide +kernel))
  | with_reducible refine x_EqS ?_
  | with_reducible refine x_NeS ?_
  | ((with_reducible refine' x_ixL ?hq ?hi ?_); (case hq => walk_at "hk"); (case hi => first | exact rfl | assumption))
  | ((with_reducible refine' x_ixT ?hq ?hi ?_); (case hq => walk_at "hk"); (case hi => first | exact rfl | assumption))
  | with_reducible refine x_chain ?_
  | with_reducible refine x_tup ?_
  | with_reducible refine x_lst ?_
  | ((with_reducible refine x_lenNew ?hl ?_); (case hl => exact Nat.le_of_ble_eq_true rfl); intro _ _ _ _ _)
  | ((with_reducible refine x_new ?_); intro _ _ _ _ _)
  | with_reducible refine x_sl ?_
  | with_reducible refine x_noPart ?_
  | with_reducible refine x_part ?_
  | with_reducible refine x_ex_int ?_
  | with_reducible refine x_ex_bl ?_
  | with_reducible refine x_ex_2 ?_
  | with_reducible refine x_test ?_
  | with_reducible refine x_B ?_
  | with_reducible refine x_and ?_
  | with_reducible refine x_or ?_
  | with_reducible refine x_not ?_
  | with_reducible refine x_andV ?_
  | with_reducible refine x_orV ?_
  | with_reducible refine x_notV ?_
  | with_reducible refine x_ifE ?_
  | with_reducible refine x_iteT ?_
  | with_reducible refine x_iteF ?_
  | ((with_reducible refine x_iteD ?_ ?_) <;> intro _)
  | ((with_reducible refine x_iteN ?_ ?_) <;> intro _)
  | with_reducible refine x_if ?_
  | with_reducible refine x_seq ?_
  | with_reducible refine x_next ?_
  | with_reducible refine x_asg ?_
  | with_reducible refine x_gName ?_
  | ((with_reducible refine' x_gTup ?hq ?hn ?_); (case hq => walk_at "hk"); (case hn => exact rfl))
  | with_reducible refine x_gCons ?_
  | with_reducible refine x_gNil ?_
  | ((with_reducible refine' x_gConsE ?h ?_); (case h => exact rfl))
  | ((with_reducible refine x_gNilE ?h ?_); (case h => exact rfl))
  | with_reducible refine x_ret ?_
  | with_reducible refine x_drop ?_
  | with_reducible refine x_par ?_
  | ((with_reducible refine' x_aug ?hx ?_); (case hx => exact rfl))
  | with_reducible refine x_ipI ?_
  | with_reducible refine x_augS ?_
  | with_reducible refine x_gSub ?_
  | ((with_reducible refine' x_setL ?hq ?hi ?_); (case hq => walk_at "hk"); (case hi => first | exact rfl | assumption))
  | with_reducible refine x_cons ?_
  | with_reducible refine x_nil ?_
  | with_reducible refine x_CB ?_
  | with_reducible refine x_abs ?_
  | with_reducible refine x_intI ?_
  | with_reducible refine x_intB ?_
  | ((with_reducible refine' x_lenL ?hq ?_); (case hq => walk_at "hk"))
  | ((with_reducible refine' x_lenT ?hq ?_); (case hq => walk_at "hk"))
  | ((with_reducible refine x_iteTe ?h ?_); (case h => exact rfl))
  | ((with_reducible refine x_iteFe ?h ?_); (case h => exact rfl))
  | walk_at "use"
  | with_reducible refine x_callS ?_
  | ((with_reducible refine x_lc ?_))
  | ((with_reducible refine x_for ?_))
  | ((with_reducible refine x_iR1 ?_))
  | ((with_reducible refine x_iL ?_))
  | ((with_reducible refine x_iZ ?_))
  | ((with_reducible refine x_yes ?_))
  | ((with_reducible refine' x_NIDt ?hq ?_); (case hq => assumption))
  | ((with_reducible refine' x_NIDf ?hq ?_); (case hq => assumption))
  | ((with_reducible refine' x_IIDf ?hq ?_); (case hq => assumption))
  | ((with_reducible refine' x_IIDt ?hq ?_); (case hq => assumption))
  | ((with_reducible refine' x_ixDs ?hd ?hq ?_); (case hd => assumption); (case hq => assumption))
  | ((with_reducible refine x_InSt ?h ?_); (case h => decide +kernel))
  | ((with_reducible refine x_InSf ?h ?_); (case h => decide +kernel))
  | ((with_reducible refine' x_notInI ?hq ?_); (case hq => walk_at "hk"))
  | ((with_reducible refine' x_inTt ?hq ?hv ?ha ?he ?_); (case hq => walk_at "hk"); (case hv => exact rfl); (case ha => exact rfl); (case he => decide +kernel))
  | ((with_reducible refine' x_inTf ?hq ?hv ?ha ?he ?_); (case hq => walk_at "hk"); (case hv => exact rfl); (case ha => exact rfl); (case he => decide +kernel))
  | ((with_reducible refine' x_slT ?hq ?hw ?_); (case hq => walk_at "hk"); (case hw => with_unfolding_all exact of_decide_eq_true rfl))
  | ((with_reducible refine' x_slL ?hq ?_); (case hq => walk_at "hk"))
  | ((with_reducible refine' x_catT ?hq ?hr ?n1 ?n2 ?hl ?_); (case hq => walk_at "hk"); (case hr => walk_at "hk"); (case n1 => exact List.cons_ne_nil _ _); (case n2 => exact List.cons_ne_nil _ _); (case hl => exact Nat.le_of_ble_eq_true rfl))
  | ((with_reducible refine x_bm ?_))
  | ((with_reducible refine x_lstRg ?_))
  | ((with_reducible refine x_rg1 ?_))
  | ((with_reducible refine And.intro ?h ?_); (case h => exact tyL (by assumption)))
  | dsimp only)
local macro_rules | `(tactic| walk_at "use") => `(tactic| fail)
local macro_rules | `(tactic| walk_at "rd") => `(tactic| repeat' (walk_at "rd1"))
local macro_rules | `(tactic| walk_at "ex") => `(tactic| first | exact Ex.refl _ | assumption | (refine' Ex.trans ?he (by assumption); (case he => walk_at "ex")))
local macro_rules | `(tactic| walk_at "rd1") => `(tactic| first
  | ((with_reducible refine x_iteDf ?h ?_); (case h => exact rfl))
  | ((with_reducible refine x_iteDt ?h ?_); (case h => exact rfl))
  | ((with_reducible refine x_iteNf ?h ?_); (case h => exact rfl))
  | ((with_reducible refine x_iteNt ?h ?_); (case h => exact rfl))
  | ((with_reducible refine x_isiI (r := true) ?h ?_); (case h => decide +kernel))
  | ((with_reducible refine x_isiI (r := false) ?h ?_); (case h => decide +kernel))
  | ((with_reducible refine x_isiS (r := true) ?h ?_); (case h => decide +kernel))
  | ((with_reducible refine x_isiS (r := false) ?h ?_); (case h => decide +kernel))
  | ((with_reducible refine x_isiB (r := true) ?h ?_); (case h => decide +kernel))
  | ((with_reducible refine x_isiB (r := false) ?h ?_); (case h => decide +kernel))
  | ((with_reducible refine' x_isiT (r := true) ?hp ?h ?_); (case hp => walk_at "hk"); (case h => decide +kernel))
  | ((with_reducible refine' x_isiT (r := false) ?hp ?h ?_); (case hp => walk_at "hk"); (case h => decide +kernel))
  | ((with_reducible refine' x_isiL (r := true) ?hp ?h ?_); (case hp => walk_at "hk"); (case h => decide +kernel))
  | ((with_reducible refine' x_isiL (r := false) ?hp ?h ?_); (case hp => walk_at "hk"); (case h => decide +kernel))
  | ((with_reducible refine' x_isi2L ?hp ?hl ?_); (case hp => walk_at "hk"); (case hl => walk_at "hk"))
  | ((with_reducible refine' x_isi2T ?hp ?hl ?_); (case hp => walk_at "hk"); (case hl => walk_at "hk"))
  | ((with_reducible refine' x_tupOfL ?hq ?_); (case hq => walk_at "hk"))
  | ((with_reducible refine' x_tupOfT ?hq ?_); (case hq => walk_at "hk"))
  | ((with_reducible refine x_lenS ?h ?_); (case h => exact Nat.le_of_ble_eq_true rfl))
  | ((with_reducible refine' x_all ?hq ?_); (case hq => walk_at "hk"))
  | with_reducible refine x_lenSet ?_)

/-! what is a call -/
def tens : List Str := ["all", "up", "swap", "wheel", "about", "front", "halve", "pair", "others", "fill"]
def odds : List Str := ["", "backs", "ups", "round", "Swap", "halv", "All", "turn"]
def wordNo (z : Str) : Nat := tens.idxOf z
def eqB : V → V → Bool
  | .int i, .int j => decide (i = j)
  | _, _ => false
def callN (files : Int) : Nat → List V → Bool
  | 0, [k] => kB k
  | 1, [f, k] => fB files f && kB k
  | 2, [f, g] => fB files f && fB files g && !eqB f g
  | 3, [f, g, k] => fB files f && fB files g && kB k && !eqB f g
  | 4, [] => true
  | 5, [f, g] => fB files f && fB files g && !eqB f g
  | 6, [] => true
  | 7, [] => true
  | 8, [] => true
  | 9, [] => true
  | _, _ => false
def callB (files : Int) : List V → Bool
  | .str z :: r => callN files (wordNo z) r
  | _ => false
def callV (H : Hp) (files : Int) : V → Bool
  | .ref p => match H p with
    | some (.tup xs) => callB files xs
    | _ => false
  | _ => false
def Wd (x : V) : Prop := ∀ z, x = .str z → z ∈ tens ++ odds
/-- a thing that may be judged -/
structure Jdg (K : PySem.W.Frag) (H : Hp) (v : V) : Prop where
  th : Thing K H v
  it : ∀ p xs, v = .ref p → H p = some (.tup xs) → ∀ x ∈ xs, Thing K H x ∧ Wd x
section
variable {P : Program} {w : World} {K : PySem.W.Frag} {mg : Str → Option Value} {base : Heap} {a : Ad} {H : Hp} {Q : VK} {E : XK} {p b : Addr} {v : V} {files : Int}
theorem callV_tup {xs : List V} (h : H p = some (.tup xs)) : callV H files (.ref p) = callB files xs := by
  simp only [callV, h]
theorem callV_no (h : ∀ p xs, v = .ref p → H p ≠ some (.tup xs)) : callV H files v = false := by
  unfold callV
  split
  · next p =>
    split
    · next e => exact absurd e (h _ _ rfl)
    · rfl
  · rfl
theorem isStr_ex {v : V} (h : isStr v = true) : ∃ z, v = .str z := by
  cases v with
  | str z => exact ⟨z, rfl⟩
  | _ => cases h
theorem callB_nostr {x : V} {r : List V} (h : isStr x = false) : callB files (x :: r) = false := by
  cases x with
  | str z => cases h
  | _ => rfl
theorem fB_ex {x : V} (h : fB files x = true) : ∃ f, x = .int f ∧ 0 ≤ f ∧ f < files := by
  cases x with
  | int f => exact ⟨f, rfl, of_decide_eq_true h⟩
  | _ => cases h
theorem kB_ex {x : V} (h : kB x = true) : ∃ k, x = .int k ∧ k ≠ 0 := by
  cases x with
  | int k => exact ⟨k, rfl, by have : (!decide (k = 0)) = true := h; simpa using this⟩
  | _ => cases h
theorem partF (x : V) : partB files ⟨#[102]⟩ x = fB files x := if_pos (str1_eq.mpr rfl)
theorem partK (x : V) : partB files ⟨#[107]⟩ x = kB x := if_neg fun e => by have := str1_eq.mp e; omega
theorem dis_same {ns : List Int} {f : Int} (pm : ns.Perm [f, f]) : Ow.dis ns = 1 := by
  have e : ns = [f, f] := by
    have h1 : ∀ x ∈ ns, x = f := fun x hx => by simpa using pm.mem_iff.mp hx
    have h2 : ns.length = 2 := pm.length_eq
    match ns, h2 with
    | [x, y], _ => rw [h1 x (by simp), h1 y (by simp)]
  rw [e]
  unfold Ow.dis firstMet
  simp [step_dedup, List.range, List.range.loop]
theorem dis_two {ns : List Int} {f g : Int} (pm : ns.Perm [f, g]) : decide ((Ow.dis ns : Int) = (ns.length : Int)) = !decide (f = g) := by
  rw [pm.length_eq]
  by_cases e : f = g
  · subst e
    rw [dis_same pm, decide_eq_true rfl]
    rfl
  · rw [dis_nodup (pm.nodup_iff.mpr (by simp [e])), pm.length_eq, decide_eq_true rfl, decide_eq_false e]
    rfl
theorem dis_one {ns m : List Int} (pm : ns.Perm m) (h : m.length ≤ 1) : decide ((Ow.dis ns : Int) = (ns.length : Int)) = true := by
  refine decide_eq_true ?_
  rw [dis_nodup (pm.nodup_iff.mpr ?_)]
  match m, h with
  | [], _ => exact .nil
  | [_], _ => simp
local macro_rules | `(tactic| walk_at "use") => `(tactic| ((with_reducible refine' u_files_of ?hq ?_); (case hq => walk_at "hk"); intro _ _ _ _ _ _ _))
/-! is_call, of any value -/
def sp_is_call (K : PySem.W.Frag) : Sp := fun vs H Q _ => ∃ (files : Int) (v : V), vs = [.int files, v] ∧ Jdg K H v ∧ ∀ H1, Ex H H1 → Q (.bl (callV H files v)) H1
theorem u_is_callV (j : Jdg K H v) (k : ∀ H1, Ex H H1 → Q (.bl (callV H files v)) H1) : sp_is_call K [.int files, v] H Q E := ⟨files, v, rfl, j, k⟩
theorem ok_is_call (T : Txt K w mg a) : FnOk P w K mg base CX0 4 a.a_is_call a.fd_is_call ["files", "thing"] (sp_is_call K) := by
  refine T.F_is_call.ok sc_is_call (fun vs H Q E h => ?_) (fun cdv A outer s H vs Q E hr h => ?_)
  · obtain ⟨f, v, rfl, _⟩ := h; rfl
  · obtain ⟨files, v, rfl, j, k⟩ := h
    have G_is_part := ok_is_part (P := P) (base := base) T
    have G_files_of := ok_files_of (P := P) (base := base) T
    refine ⟨_, (pss_cons (ps_if (PW.pt (pw_or (pt_not (pt_val (pe_callB call_isi (by rfl) T.n_isinstance (by decide +kernel) (pa_cons (pv 1) (pa_cons (pe_bltn (v := .ty "tuple") (u := .type "tuple") (by rfl) T.n_tuple (by decide +kernel) rfl) pa_nil))))) (pw_or1 (pt_cmpR op_eq (pe_callB c_len (by rfl) T.n_len PySem.boot_len (pa_cons (pv 1) pa_nil)) pe_int (nomark _))))) (pss_one (ps_ret pe_bl)) pss_nil)
      (pss_cons (ps_set (i := 2) sc_is_call.nd rfl (Or.inl rfl) (pe_ix ix_tup (pv 1) pe_int (fun _ _ => rfl)))
      (pss_cons (ps_if (PW.pt (pw_or (pt_not (pt_val (pe_callB call_isi (by rfl) T.n_isinstance (by decide +kernel) (pa_cons (pv 2) (pa_cons (pe_bltn (v := .ty "str") (u := .type "str") (by rfl) T.n_str (by decide +kernel) rfl) pa_nil))))) (pw_or1 (pt_cmpR (c_notInD T.d_PARTS) (pv 2) (pe_glob (v := .ref a.d_PARTS) (by rfl) T.g_PARTS rfl) (by rfl))))) (pss_one (ps_ret pe_bl)) pss_nil)
      (pss_cons (ps_set (i := 3) sc_is_call.nd rfl (Or.inl rfl) (pe_ix ix_kdict (pe_glob (v := .ref a.d_PARTS) (by rfl) T.g_PARTS rfl) (pv 2) (fun _ _ => rfl)))
      (pss_cons (ps_if (pt_cmpR op_ne (pe_callB c_len (by rfl) T.n_len PySem.boot_len (pa_cons (pv 1) pa_nil)) (pe_op op_add (pe_callB c_lenS (by rfl) T.n_len PySem.boot_len (pa_cons (pv 3) pa_nil)) pe_int) (nomark _)) (pss_one (ps_ret pe_bl)) pss_nil)
      (pss_cons (ps_if (pt_not (pt_val (pe_callB (cr_all rfl) (by rfl) T.n_all (by decide +kernel) (pa_cons (pe_lc (own := [("part", 5), ("item", 6)]) rfl sc_is_call.nd (Zst.pi_zipS (by rfl) T.n_zip (pa_cons (pv 3) (pa_cons (pe_slice sl_tup (pv 1) (po_some pe_int) po_none) pa_nil))) (blkOk_by (own := [("part", 5), ("item", 6)]) (N := ["files", "thing", "word", "parts", "named", "part", "item"]) (sc := defScope s_is_call) (by decide +kernel)) (fun _ _ _ _ _ => (pg_tupB (n := 2) rfl (pgs_cons (pg_name (i := 5) sc_is_call.nd rfl (Or.inl rfl) (Or.inr rfl)) (pgs_cons (pg_name (i := 6) sc_is_call.nd rfl (Or.inl rfl) (Or.inr rfl)) pgs_nil)))) (fun _ _ _ _ _ => pts_nil) (fun _ _ _ _ _ => (pe_call G_is_part (hr.mono (by decide)) (by rfl) T.m_is_part T.k_is_part T.b_is_part .nil pass0 (pa_cons (pv 0) (pa_cons (pv 5) (pa_cons (pv 6) pa_nil)))))) pa_nil)))) (pss_one (ps_ret pe_bl)) pss_nil)
      (pss_cons (ps_set (i := 4) sc_is_call.nd rfl (Or.inl rfl) (pe_call G_files_of (hr.mono (by decide)) (by rfl) T.m_files_of T.k_files_of T.b_files_of .nil pass0 (pa_cons (pv 1) pa_nil)))
      (pss_one (ps_ret (pe_cmpR op_eq (Ow.pe_lenSetI rfl (by rfl) T.n_len (by rfl) T.n_set (pv 4)) (pe_callB c_len (by rfl) T.n_len PySem.boot_len (pa_cons (pv 4) pa_nil)) (nomark _))))))))))), ?_⟩
    have d_PARTS := T.d_PARTS
    have v_PARTS_all := T.v_PARTS_all
    obtain ⟨_, w_PARTS_all⟩ := T.v_PARTS_all
    have v_PARTS_up := T.v_PARTS_up
    obtain ⟨_, w_PARTS_up⟩ := T.v_PARTS_up
    have v_PARTS_swap := T.v_PARTS_swap
    obtain ⟨_, w_PARTS_swap⟩ := T.v_PARTS_swap
    have v_PARTS_wheel := T.v_PARTS_wheel
    obtain ⟨_, w_PARTS_wheel⟩ := T.v_PARTS_wheel
    have v_PARTS_about := T.v_PARTS_about
    obtain ⟨_, w_PARTS_about⟩ := T.v_PARTS_about
    have v_PARTS_front := T.v_PARTS_front
    obtain ⟨_, w_PARTS_front⟩ := T.v_PARTS_front
    have v_PARTS_halve := T.v_PARTS_halve
    obtain ⟨_, w_PARTS_halve⟩ := T.v_PARTS_halve
    have v_PARTS_pair := T.v_PARTS_pair
    obtain ⟨_, w_PARTS_pair⟩ := T.v_PARTS_pair
    have v_PARTS_others := T.v_PARTS_others
    obtain ⟨_, w_PARTS_others⟩ := T.v_PARTS_others
    have v_PARTS_fill := T.v_PARTS_fill
    obtain ⟨_, w_PARTS_fill⟩ := T.v_PARTS_fill
    have o_PARTS_0 := T.o_PARTS_0
    have o_PARTS_1 := T.o_PARTS_1
    have o_PARTS_2 := T.o_PARTS_2
    have o_PARTS_3 := T.o_PARTS_3
    have o_PARTS_4 := T.o_PARTS_4
    have o_PARTS_5 := T.o_PARTS_5
    have o_PARTS_6 := T.o_PARTS_6
    have o_PARTS_7 := T.o_PARTS_7
    have d_UNDOING := T.d_UNDOING
    have v_UNDOING_halve := T.v_UNDOING_halve
    obtain ⟨_, w_UNDOING_halve⟩ := T.v_UNDOING_halve
    have v_UNDOING_pair := T.v_UNDOING_pair
    obtain ⟨_, w_UNDOING_pair⟩ := T.v_UNDOING_pair
    have v_UNDOING_others := T.v_UNDOING_others
    obtain ⟨_, w_UNDOING_others⟩ := T.v_UNDOING_others
    have v_UNDOING_fill := T.v_UNDOING_fill
    obtain ⟨_, w_UNDOING_fill⟩ := T.v_UNDOING_fill
    have o_UNDOING_all := T.o_UNDOING_all
    have o_UNDOING_up := T.o_UNDOING_up
    have o_UNDOING_swap := T.o_UNDOING_swap
    have o_UNDOING_wheel := T.o_UNDOING_wheel
    have o_UNDOING_about := T.o_UNDOING_about
    have o_UNDOING_front := T.o_UNDOING_front
    rcases j.th.tupOr with ⟨p, xs, rfl, hp⟩ | ⟨⟨bI, bB, bL, bS, bD, kd⟩, no⟩
    rotate_left
    · rw [callV_no no] at k
      walk_at "rd"
      refine x_isiTup kd ?_
      walk_at "rd"
      exact k _ (Ex.refl _)
    have it := j.it p xs rfl hp
    rw [callV_tup hp] at k
    match xs with
    | [] =>
      walk_at "rd"
      exact k _ (Ex.refl _)
    | x0 :: r =>
      cases hs : isStr x0 with
      | false =>
        rw [callB_nostr hs] at k
        obtain ⟨bT, bL, bD, kd⟩ := (it x0 (by simp)).1.kinds
        walk_at "rd"
        refine x_ixT hp (at_nat (by decide) rfl) ?_
        walk_at "rd"
        refine x_isiStr kd (x_ex_bl ?_)
        rw [hs]
        walk_at "rd"
        exact k _ (Ex.refl _)
      | true =>
        obtain ⟨z, rfl⟩ := isStr_ex hs
        have hz := (it _ (by simp)).2 z rfl
        replace it : ∀ x ∈ r, Thing K H x := fun x hx => (it x (by simp [hx])).1
        replace k : ∀ H1, Ex H H1 → Q (.bl (callN files (wordNo z) r)) H1 := k
        simp only [tens, odds, List.cons_append, List.nil_append, List.mem_cons, List.not_mem_nil, or_false] at hz
        walk_at "rd"
        refine x_ixT hp (at_nat (by decide) rfl) ?_
        walk_at "rd"
        rcases hz with rfl | rfl | rfl | rfl | rfl | rfl | rfl | rfl | rfl | rfl | rfl | rfl | rfl | rfl | rfl | rfl | rfl | rfl
        · rw [show wordNo "all" = 0 by decide +kernel] at k
          walk_at "rd"
          · rename_i h
            rw [show callN files 0 r = false from by
              match r, h with
              | [], _ => rfl
              | [_], h => exact absurd rfl h
              | [_, _], _ => rfl
              | [_, _, _], _ => rfl
              | _ :: _ :: _ :: _ :: _, _ => rfl] at k
            exact k _ (Ex.refl _)
          · rename_i h p1 H1 e1 f1 h1
            have hl : r.length = 1 := by
              rw [show ((("k" : Str).length : Nat) : Int) = 1 from by decide +kernel] at h
              simp only [List.length_cons] at h
              omega
            have ex : ∃ x0, r = [x0] := by
              match r, hl with
              | [y0], _ => exact ⟨y0, rfl⟩
            clear h hl
            obtain ⟨x0, rfl⟩ := ex
            replace h1 : H1 p1 = some (.tup [x0]) := h1
            refine zip_genV (f := fun c y => .bl (partB files ⟨#[c]⟩ y)) (ys := [x0]) h1 rfl (Nat.le_of_ble_eq_true rfl) (fun i => NB.len ?_) (fun u v => rfl) (fun i c y H' Q' e hc hy kk => ?_) fun p2 H2 e2 f2 h2 => ?_
            · exact Nat.ne_of_lt (Nat.lt_of_le_of_lt (List.length_take_le' _ _) (by show 1 < 4; decide))
            · walk_at "rd"
              refine u_is_part ((it y (List.mem_of_getElem? hy)).mono (e1.trans e)) kk
            have h3 : H2 p2 = some (.lst (([kB x0] : List Bool).map V.bl)) := by
              rw [h2]
              show some (HO.lst [.bl (partB files ⟨#[107]⟩ x0)]) = some (HO.lst [.bl (kB x0)])
              rw [partK (files := files) x0]
            walk_at "rd"
            cases hall : ([kB x0] : List Bool).all id with
            | false =>
              rw [show callN files 0 [x0] = false from by
                simp only [List.all_cons, List.all_nil, id, Bool.and_true] at hall
                simp only [callN]
                revert hall
                cases (kB x0) <;> simp_all] at k
              walk_at "rd"
              exact k _ ((e1.trans e2))
            | true =>
              simp only [List.all_cons, List.all_nil, id, Bool.and_true, Bool.and_eq_true] at hall
              have a0 := hall
              obtain ⟨i0, rfl, g0⟩ := kB_ex a0
              rw [show callN files 0 [.int i0] = true from by simp only [callN, eqB, a0, Bool.true_and, Bool.and_self]] at k
              have hp2 : H2 p = some (.tup (C.all i0).vals) := (e1.trans e2).kp _ _ hp NB.tup
              walk_at "rd"
              rename_i p3 ns H3 e3 h4 pm _
              refine x_lenSetK h4 (by rw [pm.length_eq]; exact Nat.le_of_ble_eq_true rfl) ?_
              walk_at "rd"
              rw [List.length_map, dis_one pm (Nat.le_of_ble_eq_true rfl)]
              exact k _ ((e1.trans e2).trans e3)
        · rw [show wordNo "up" = 1 by decide +kernel] at k
          walk_at "rd"
          · rename_i h
            rw [show callN files 1 r = false from by
              match r, h with
              | [], _ => rfl
              | [_], _ => rfl
              | [_, _], h => exact absurd rfl h
              | [_, _, _], _ => rfl
              | _ :: _ :: _ :: _ :: _, _ => rfl] at k
            exact k _ (Ex.refl _)
          · rename_i h p1 H1 e1 f1 h1
            have hl : r.length = 2 := by
              rw [show ((("fk" : Str).length : Nat) : Int) = 2 from by decide +kernel] at h
              simp only [List.length_cons] at h
              omega
            have ex : ∃ x0, ∃ x1, r = [x0, x1] := by
              match r, hl with
              | [y0, y1], _ => exact ⟨y0, y1, rfl⟩
            clear h hl
            obtain ⟨x0, x1, rfl⟩ := ex
            replace h1 : H1 p1 = some (.tup [x0, x1]) := h1
            refine zip_genV (f := fun c y => .bl (partB files ⟨#[c]⟩ y)) (ys := [x0, x1]) h1 rfl (Nat.le_of_ble_eq_true rfl) (fun i => NB.len ?_) (fun u v => rfl) (fun i c y H' Q' e hc hy kk => ?_) fun p2 H2 e2 f2 h2 => ?_
            · exact Nat.ne_of_lt (Nat.lt_of_le_of_lt (List.length_take_le' _ _) (by show 2 < 4; decide))
            · walk_at "rd"
              refine u_is_part ((it y (List.mem_of_getElem? hy)).mono (e1.trans e)) kk
            have h3 : H2 p2 = some (.lst (([fB files x0, kB x1] : List Bool).map V.bl)) := by
              rw [h2]
              show some (HO.lst [.bl (partB files ⟨#[102]⟩ x0), .bl (partB files ⟨#[107]⟩ x1)]) = some (HO.lst [.bl (fB files x0), .bl (kB x1)])
              rw [partF (files := files) x0, partK (files := files) x1]
            walk_at "rd"
            cases hall : ([fB files x0, kB x1] : List Bool).all id with
            | false =>
              rw [show callN files 1 [x0, x1] = false from by
                simp only [List.all_cons, List.all_nil, id, Bool.and_true] at hall
                simp only [callN]
                revert hall
                cases (fB files x0) <;> cases (kB x1) <;> simp_all] at k
              walk_at "rd"
              exact k _ ((e1.trans e2))
            | true =>
              simp only [List.all_cons, List.all_nil, id, Bool.and_true, Bool.and_eq_true] at hall
              obtain ⟨a0, a1⟩ := hall
              obtain ⟨i0, rfl, g0, g0'⟩ := fB_ex a0
              obtain ⟨i1, rfl, g1⟩ := kB_ex a1
              rw [show callN files 1 [.int i0, .int i1] = true from by simp only [callN, eqB, a0, a1, Bool.true_and, Bool.and_self]] at k
              have hp2 : H2 p = some (.tup (C.up i0 i1).vals) := (e1.trans e2).kp _ _ hp NB.tup
              walk_at "rd"
              rename_i p3 ns H3 e3 h4 pm _
              refine x_lenSetK h4 (by rw [pm.length_eq]; exact Nat.le_of_ble_eq_true rfl) ?_
              walk_at "rd"
              rw [List.length_map, dis_one pm (Nat.le_of_ble_eq_true rfl)]
              exact k _ ((e1.trans e2).trans e3)
        · rw [show wordNo "swap" = 2 by decide +kernel] at k
          walk_at "rd"
          · rename_i h
            rw [show callN files 2 r = false from by
              match r, h with
              | [], _ => rfl
              | [_], _ => rfl
              | [_, _], h => exact absurd rfl h
              | [_, _, _], _ => rfl
              | _ :: _ :: _ :: _ :: _, _ => rfl] at k
            exact k _ (Ex.refl _)
          · rename_i h p1 H1 e1 f1 h1
            have hl : r.length = 2 := by
              rw [show ((("ff" : Str).length : Nat) : Int) = 2 from by decide +kernel] at h
              simp only [List.length_cons] at h
              omega
            have ex : ∃ x0, ∃ x1, r = [x0, x1] := by
              match r, hl with
              | [y0, y1], _ => exact ⟨y0, y1, rfl⟩
            clear h hl
            obtain ⟨x0, x1, rfl⟩ := ex
            replace h1 : H1 p1 = some (.tup [x0, x1]) := h1
            refine zip_genV (f := fun c y => .bl (partB files ⟨#[c]⟩ y)) (ys := [x0, x1]) h1 rfl (Nat.le_of_ble_eq_true rfl) (fun i => NB.len ?_) (fun u v => rfl) (fun i c y H' Q' e hc hy kk => ?_) fun p2 H2 e2 f2 h2 => ?_
            · exact Nat.ne_of_lt (Nat.lt_of_le_of_lt (List.length_take_le' _ _) (by show 2 < 4; decide))
            · walk_at "rd"
              refine u_is_part ((it y (List.mem_of_getElem? hy)).mono (e1.trans e)) kk
            have h3 : H2 p2 = some (.lst (([fB files x0, fB files x1] : List Bool).map V.bl)) := by
              rw [h2]
              show some (HO.lst [.bl (partB files ⟨#[102]⟩ x0), .bl (partB files ⟨#[102]⟩ x1)]) = some (HO.lst [.bl (fB files x0), .bl (fB files x1)])
              rw [partF (files := files) x0, partF (files := files) x1]
            walk_at "rd"
            cases hall : ([fB files x0, fB files x1] : List Bool).all id with
            | false =>
              rw [show callN files 2 [x0, x1] = false from by
                simp only [List.all_cons, List.all_nil, id, Bool.and_true] at hall
                simp only [callN]
                revert hall
                cases (fB files x0) <;> cases (fB files x1) <;> simp_all] at k
              walk_at "rd"
              exact k _ ((e1.trans e2))
            | true =>
              simp only [List.all_cons, List.all_nil, id, Bool.and_true, Bool.and_eq_true] at hall
              obtain ⟨a0, a1⟩ := hall
              obtain ⟨i0, rfl, g0, g0'⟩ := fB_ex a0
              obtain ⟨i1, rfl, g1, g1'⟩ := fB_ex a1
              rw [show callN files 2 [.int i0, .int i1] = !decide (i0 = i1) from by simp only [callN, eqB, a0, a1, Bool.true_and, Bool.and_self]] at k
              have hp2 : H2 p = some (.tup (C.swap i0 i1).vals) := (e1.trans e2).kp _ _ hp NB.tup
              walk_at "rd"
              rename_i p3 ns H3 e3 h4 pm _
              refine x_lenSetK h4 (by rw [pm.length_eq]; exact Nat.le_of_ble_eq_true rfl) ?_
              walk_at "rd"
              rw [List.length_map, dis_two pm]
              exact k _ ((e1.trans e2).trans e3)
        · rw [show wordNo "wheel" = 3 by decide +kernel] at k
          walk_at "rd"
          · rename_i h
            rw [show callN files 3 r = false from by
              match r, h with
              | [], _ => rfl
              | [_], _ => rfl
              | [_, _], _ => rfl
              | [_, _, _], h => exact absurd rfl h
              | _ :: _ :: _ :: _ :: _, _ => rfl] at k
            exact k _ (Ex.refl _)
          · rename_i h p1 H1 e1 f1 h1
            have hl : r.length = 3 := by
              rw [show ((("ffk" : Str).length : Nat) : Int) = 3 from by decide +kernel] at h
              simp only [List.length_cons] at h
              omega
            have ex : ∃ x0, ∃ x1, ∃ x2, r = [x0, x1, x2] := by
              match r, hl with
              | [y0, y1, y2], _ => exact ⟨y0, y1, y2, rfl⟩
            clear h hl
            obtain ⟨x0, x1, x2, rfl⟩ := ex
            replace h1 : H1 p1 = some (.tup [x0, x1, x2]) := h1
            refine zip_genV (f := fun c y => .bl (partB files ⟨#[c]⟩ y)) (ys := [x0, x1, x2]) h1 rfl (Nat.le_of_ble_eq_true rfl) (fun i => NB.len ?_) (fun u v => rfl) (fun i c y H' Q' e hc hy kk => ?_) fun p2 H2 e2 f2 h2 => ?_
            · exact Nat.ne_of_lt (Nat.lt_of_le_of_lt (List.length_take_le' _ _) (by show 3 < 4; decide))
            · walk_at "rd"
              refine u_is_part ((it y (List.mem_of_getElem? hy)).mono (e1.trans e)) kk
            have h3 : H2 p2 = some (.lst (([fB files x0, fB files x1, kB x2] : List Bool).map V.bl)) := by
              rw [h2]
              show some (HO.lst [.bl (partB files ⟨#[102]⟩ x0), .bl (partB files ⟨#[102]⟩ x1), .bl (partB files ⟨#[107]⟩ x2)]) = some (HO.lst [.bl (fB files x0), .bl (fB files x1), .bl (kB x2)])
              rw [partF (files := files) x0, partF (files := files) x1, partK (files := files) x2]
            walk_at "rd"
            cases hall : ([fB files x0, fB files x1, kB x2] : List Bool).all id with
            | false =>
              rw [show callN files 3 [x0, x1, x2] = false from by
                simp only [List.all_cons, List.all_nil, id, Bool.and_true] at hall
                simp only [callN]
                revert hall
                cases (fB files x0) <;> cases (fB files x1) <;> cases (kB x2) <;> simp_all] at k
              walk_at "rd"
              exact k _ ((e1.trans e2))
            | true =>
              simp only [List.all_cons, List.all_nil, id, Bool.and_true, Bool.and_eq_true] at hall
              obtain ⟨a0, a1, a2⟩ := hall
              obtain ⟨i0, rfl, g0, g0'⟩ := fB_ex a0
              obtain ⟨i1, rfl, g1, g1'⟩ := fB_ex a1
              obtain ⟨i2, rfl, g2⟩ := kB_ex a2
              rw [show callN files 3 [.int i0, .int i1, .int i2] = !decide (i0 = i1) from by simp only [callN, eqB, a0, a1, a2, Bool.true_and, Bool.and_self]] at k
              have hp2 : H2 p = some (.tup (C.wheel i0 i1 i2).vals) := (e1.trans e2).kp _ _ hp NB.tup
              walk_at "rd"
              rename_i p3 ns H3 e3 h4 pm _
              refine x_lenSetK h4 (by rw [pm.length_eq]; exact Nat.le_of_ble_eq_true rfl) ?_
              walk_at "rd"
              rw [List.length_map, dis_two pm]
              exact k _ ((e1.trans e2).trans e3)
        · rw [show wordNo "about" = 4 by decide +kernel] at k
          walk_at "rd"
          · rename_i h
            rw [show callN files 4 r = false from by
              match r, h with
              | [], h => exact absurd rfl h
              | [_], _ => rfl
              | [_, _], _ => rfl
              | [_, _, _], _ => rfl
              | _ :: _ :: _ :: _ :: _, _ => rfl] at k
            exact k _ (Ex.refl _)
          · rename_i h p1 H1 e1 f1 h1
            have hl : r.length = 0 := by
              rw [show ((("" : Str).length : Nat) : Int) = 0 from by decide +kernel] at h
              simp only [List.length_cons] at h
              omega
            have ex : r = [] := by
              match r, hl with
              | [], _ => exact rfl
            clear h hl
            obtain rfl := ex
            replace h1 : H1 p1 = some (.tup []) := h1
            refine zip_genV (f := fun c y => .bl (partB files ⟨#[c]⟩ y)) (ys := []) h1 rfl (Nat.le_of_ble_eq_true rfl) (fun i => NB.len ?_) (fun u v => rfl) (fun i c y H' Q' e hc hy kk => ?_) fun p2 H2 e2 f2 h2 => ?_
            · exact Nat.ne_of_lt (Nat.lt_of_le_of_lt (List.length_take_le' _ _) (by show 0 < 4; decide))
            · walk_at "rd"
              refine u_is_part ((it y (List.mem_of_getElem? hy)).mono (e1.trans e)) kk
            have h3 : H2 p2 = some (.lst (([] : List Bool).map V.bl)) := by
              rw [h2]
              rfl
            walk_at "rd"
            replace k : ∀ H1, Ex H H1 → Q (.bl true) H1 := k
            have hp2 : H2 p = some (.tup (C.about).vals) := (e1.trans e2).kp _ _ hp NB.tup
            walk_at "rd"
            rename_i p3 ns H3 e3 h4 pm _
            refine x_lenSetK h4 (by rw [pm.length_eq]; exact Nat.le_of_ble_eq_true rfl) ?_
            walk_at "rd"
            rw [List.length_map, dis_one pm (Nat.le_of_ble_eq_true rfl)]
            exact k _ ((e1.trans e2).trans e3)
        · rw [show wordNo "front" = 5 by decide +kernel] at k
          walk_at "rd"
          · rename_i h
            rw [show callN files 5 r = false from by
              match r, h with
              | [], _ => rfl
              | [_], _ => rfl
              | [_, _], h => exact absurd rfl h
              | [_, _, _], _ => rfl
              | _ :: _ :: _ :: _ :: _, _ => rfl] at k
            exact k _ (Ex.refl _)
          · rename_i h p1 H1 e1 f1 h1
            have hl : r.length = 2 := by
              rw [show ((("ff" : Str).length : Nat) : Int) = 2 from by decide +kernel] at h
              simp only [List.length_cons] at h
              omega
            have ex : ∃ x0, ∃ x1, r = [x0, x1] := by
              match r, hl with
              | [y0, y1], _ => exact ⟨y0, y1, rfl⟩
            clear h hl
            obtain ⟨x0, x1, rfl⟩ := ex
            replace h1 : H1 p1 = some (.tup [x0, x1]) := h1
            refine zip_genV (f := fun c y => .bl (partB files ⟨#[c]⟩ y)) (ys := [x0, x1]) h1 rfl (Nat.le_of_ble_eq_true rfl) (fun i => NB.len ?_) (fun u v => rfl) (fun i c y H' Q' e hc hy kk => ?_) fun p2 H2 e2 f2 h2 => ?_
            · exact Nat.ne_of_lt (Nat.lt_of_le_of_lt (List.length_take_le' _ _) (by show 2 < 4; decide))
            · walk_at "rd"
              refine u_is_part ((it y (List.mem_of_getElem? hy)).mono (e1.trans e)) kk
            have h3 : H2 p2 = some (.lst (([fB files x0, fB files x1] : List Bool).map V.bl)) := by
              rw [h2]
              show some (HO.lst [.bl (partB files ⟨#[102]⟩ x0), .bl (partB files ⟨#[102]⟩ x1)]) = some (HO.lst [.bl (fB files x0), .bl (fB files x1)])
              rw [partF (files := files) x0, partF (files := files) x1]
            walk_at "rd"
            cases hall : ([fB files x0, fB files x1] : List Bool).all id with
            | false =>
              rw [show callN files 5 [x0, x1] = false from by
                simp only [List.all_cons, List.all_nil, id, Bool.and_true] at hall
                simp only [callN]
                revert hall
                cases (fB files x0) <;> cases (fB files x1) <;> simp_all] at k
              walk_at "rd"
              exact k _ ((e1.trans e2))
            | true =>
              simp only [List.all_cons, List.all_nil, id, Bool.and_true, Bool.and_eq_true] at hall
              obtain ⟨a0, a1⟩ := hall
              obtain ⟨i0, rfl, g0, g0'⟩ := fB_ex a0
              obtain ⟨i1, rfl, g1, g1'⟩ := fB_ex a1
              rw [show callN files 5 [.int i0, .int i1] = !decide (i0 = i1) from by simp only [callN, eqB, a0, a1, Bool.true_and, Bool.and_self]] at k
              have hp2 : H2 p = some (.tup (C.front i0 i1).vals) := (e1.trans e2).kp _ _ hp NB.tup
              walk_at "rd"
              rename_i p3 ns H3 e3 h4 pm _
              refine x_lenSetK h4 (by rw [pm.length_eq]; exact Nat.le_of_ble_eq_true rfl) ?_
              walk_at "rd"
              rw [List.length_map, dis_two pm]
              exact k _ ((e1.trans e2).trans e3)
        · rw [show wordNo "halve" = 6 by decide +kernel] at k
          walk_at "rd"
          · rename_i h
            rw [show callN files 6 r = false from by
              match r, h with
              | [], h => exact absurd rfl h
              | [_], _ => rfl
              | [_, _], _ => rfl
              | [_, _, _], _ => rfl
              | _ :: _ :: _ :: _ :: _, _ => rfl] at k
            exact k _ (Ex.refl _)
          · rename_i h p1 H1 e1 f1 h1
            have hl : r.length = 0 := by
              rw [show ((("" : Str).length : Nat) : Int) = 0 from by decide +kernel] at h
              simp only [List.length_cons] at h
              omega
            have ex : r = [] := by
              match r, hl with
              | [], _ => exact rfl
            clear h hl
            obtain rfl := ex
            replace h1 : H1 p1 = some (.tup []) := h1
            refine zip_genV (f := fun c y => .bl (partB files ⟨#[c]⟩ y)) (ys := []) h1 rfl (Nat.le_of_ble_eq_true rfl) (fun i => NB.len ?_) (fun u v => rfl) (fun i c y H' Q' e hc hy kk => ?_) fun p2 H2 e2 f2 h2 => ?_
            · exact Nat.ne_of_lt (Nat.lt_of_le_of_lt (List.length_take_le' _ _) (by show 0 < 4; decide))
            · walk_at "rd"
              refine u_is_part ((it y (List.mem_of_getElem? hy)).mono (e1.trans e)) kk
            have h3 : H2 p2 = some (.lst (([] : List Bool).map V.bl)) := by
              rw [h2]
              rfl
            walk_at "rd"
            replace k : ∀ H1, Ex H H1 → Q (.bl true) H1 := k
            have hp2 : H2 p = some (.tup (C.halve).vals) := (e1.trans e2).kp _ _ hp NB.tup
            walk_at "rd"
            rename_i p3 ns H3 e3 h4 pm _
            refine x_lenSetK h4 (by rw [pm.length_eq]; exact Nat.le_of_ble_eq_true rfl) ?_
            walk_at "rd"
            rw [List.length_map, dis_one pm (Nat.le_of_ble_eq_true rfl)]
            exact k _ ((e1.trans e2).trans e3)
        · rw [show wordNo "pair" = 7 by decide +kernel] at k
          walk_at "rd"
          · rename_i h
            rw [show callN files 7 r = false from by
              match r, h with
              | [], h => exact absurd rfl h
              | [_], _ => rfl
              | [_, _], _ => rfl
              | [_, _, _], _ => rfl
              | _ :: _ :: _ :: _ :: _, _ => rfl] at k
            exact k _ (Ex.refl _)
          · rename_i h p1 H1 e1 f1 h1
            have hl : r.length = 0 := by
              rw [show ((("" : Str).length : Nat) : Int) = 0 from by decide +kernel] at h
              simp only [List.length_cons] at h
              omega
            have ex : r = [] := by
              match r, hl with
              | [], _ => exact rfl
            clear h hl
            obtain rfl := ex
            replace h1 : H1 p1 = some (.tup []) := h1
            refine zip_genV (f := fun c y => .bl (partB files ⟨#[c]⟩ y)) (ys := []) h1 rfl (Nat.le_of_ble_eq_true rfl) (fun i => NB.len ?_) (fun u v => rfl) (fun i c y H' Q' e hc hy kk => ?_) fun p2 H2 e2 f2 h2 => ?_
            · exact Nat.ne_of_lt (Nat.lt_of_le_of_lt (List.length_take_le' _ _) (by show 0 < 4; decide))
            · walk_at "rd"
              refine u_is_part ((it y (List.mem_of_getElem? hy)).mono (e1.trans e)) kk
            have h3 : H2 p2 = some (.lst (([] : List Bool).map V.bl)) := by
              rw [h2]
              rfl
            walk_at "rd"
            replace k : ∀ H1, Ex H H1 → Q (.bl true) H1 := k
            have hp2 : H2 p = some (.tup (C.pair).vals) := (e1.trans e2).kp _ _ hp NB.tup
            walk_at "rd"
            rename_i p3 ns H3 e3 h4 pm _
            refine x_lenSetK h4 (by rw [pm.length_eq]; exact Nat.le_of_ble_eq_true rfl) ?_
            walk_at "rd"
            rw [List.length_map, dis_one pm (Nat.le_of_ble_eq_true rfl)]
            exact k _ ((e1.trans e2).trans e3)
        · rw [show wordNo "others" = 8 by decide +kernel] at k
          walk_at "rd"
          · rename_i h
            rw [show callN files 8 r = false from by
              match r, h with
              | [], h => exact absurd rfl h
              | [_], _ => rfl
              | [_, _], _ => rfl
              | [_, _, _], _ => rfl
              | _ :: _ :: _ :: _ :: _, _ => rfl] at k
            exact k _ (Ex.refl _)
          · rename_i h p1 H1 e1 f1 h1
            have hl : r.length = 0 := by
              rw [show ((("" : Str).length : Nat) : Int) = 0 from by decide +kernel] at h
              simp only [List.length_cons] at h
              omega
            have ex : r = [] := by
              match r, hl with
              | [], _ => exact rfl
            clear h hl
            obtain rfl := ex
            replace h1 : H1 p1 = some (.tup []) := h1
            refine zip_genV (f := fun c y => .bl (partB files ⟨#[c]⟩ y)) (ys := []) h1 rfl (Nat.le_of_ble_eq_true rfl) (fun i => NB.len ?_) (fun u v => rfl) (fun i c y H' Q' e hc hy kk => ?_) fun p2 H2 e2 f2 h2 => ?_
            · exact Nat.ne_of_lt (Nat.lt_of_le_of_lt (List.length_take_le' _ _) (by show 0 < 4; decide))
            · walk_at "rd"
              refine u_is_part ((it y (List.mem_of_getElem? hy)).mono (e1.trans e)) kk
            have h3 : H2 p2 = some (.lst (([] : List Bool).map V.bl)) := by
              rw [h2]
              rfl
            walk_at "rd"
            replace k : ∀ H1, Ex H H1 → Q (.bl true) H1 := k
            have hp2 : H2 p = some (.tup (C.others).vals) := (e1.trans e2).kp _ _ hp NB.tup
            walk_at "rd"
            rename_i p3 ns H3 e3 h4 pm _
            refine x_lenSetK h4 (by rw [pm.length_eq]; exact Nat.le_of_ble_eq_true rfl) ?_
            walk_at "rd"
            rw [List.length_map, dis_one pm (Nat.le_of_ble_eq_true rfl)]
            exact k _ ((e1.trans e2).trans e3)
        · rw [show wordNo "fill" = 9 by decide +kernel] at k
          walk_at "rd"
          · rename_i h
            rw [show callN files 9 r = false from by
              match r, h with
              | [], h => exact absurd rfl h
              | [_], _ => rfl
              | [_, _], _ => rfl
              | [_, _, _], _ => rfl
              | _ :: _ :: _ :: _ :: _, _ => rfl] at k
            exact k _ (Ex.refl _)
          · rename_i h p1 H1 e1 f1 h1
            have hl : r.length = 0 := by
              rw [show ((("" : Str).length : Nat) : Int) = 0 from by decide +kernel] at h
              simp only [List.length_cons] at h
              omega
            have ex : r = [] := by
              match r, hl with
              | [], _ => exact rfl
            clear h hl
            obtain rfl := ex
            replace h1 : H1 p1 = some (.tup []) := h1
            refine zip_genV (f := fun c y => .bl (partB files ⟨#[c]⟩ y)) (ys := []) h1 rfl (Nat.le_of_ble_eq_true rfl) (fun i => NB.len ?_) (fun u v => rfl) (fun i c y H' Q' e hc hy kk => ?_) fun p2 H2 e2 f2 h2 => ?_
            · exact Nat.ne_of_lt (Nat.lt_of_le_of_lt (List.length_take_le' _ _) (by show 0 < 4; decide))
            · walk_at "rd"
              refine u_is_part ((it y (List.mem_of_getElem? hy)).mono (e1.trans e)) kk
            have h3 : H2 p2 = some (.lst (([] : List Bool).map V.bl)) := by
              rw [h2]
              rfl
            walk_at "rd"
            replace k : ∀ H1, Ex H H1 → Q (.bl true) H1 := k
            have hp2 : H2 p = some (.tup (C.fill).vals) := (e1.trans e2).kp _ _ hp NB.tup
            walk_at "rd"
            rename_i p3 ns H3 e3 h4 pm _
            refine x_lenSetK h4 (by rw [pm.length_eq]; exact Nat.le_of_ble_eq_true rfl) ?_
            walk_at "rd"
            rw [List.length_map, dis_one pm (Nat.le_of_ble_eq_true rfl)]
            exact k _ ((e1.trans e2).trans e3)
        · rw [show wordNo "" = 10 by decide +kernel] at k
          walk_at "rd"
          exact k _ (Ex.refl _)
        · rw [show wordNo "backs" = 10 by decide +kernel] at k
          walk_at "rd"
          exact k _ (Ex.refl _)
        · rw [show wordNo "ups" = 10 by decide +kernel] at k
          walk_at "rd"
          exact k _ (Ex.refl _)
        · rw [show wordNo "round" = 10 by decide +kernel] at k
          walk_at "rd"
          exact k _ (Ex.refl _)
        · rw [show wordNo "Swap" = 10 by decide +kernel] at k
          walk_at "rd"
          exact k _ (Ex.refl _)
        · rw [show wordNo "halv" = 10 by decide +kernel] at k
          walk_at "rd"
          exact k _ (Ex.refl _)
        · rw [show wordNo "All" = 10 by decide +kernel] at k
          walk_at "rd"
          exact k _ (Ex.refl _)
        · rw [show wordNo "turn" = 10 by decide +kernel] at k
          walk_at "rd"
          exact k _ (Ex.refl _)
end
end My

set_option Elab.async false
set_option linter.all false
set_option maxRecDepth 100000
set_option maxHeartbeats 8000000
namespace My
open PySem PySem.Spec PyProof.Rows L2 Sx
local macro_rules | `(tactic| walk_at "nb") => `(tactic| first | exact NB.tup | exact NB.ints | exact NB.len (of_decide_eq_true rfl) | exact NB.at0b rfl | exact NB.at3b rfl | exact NB.ins | exact NB.own | exact NB.frz | exact NB.refs (by assumption) | assumption)
local macro_rules | `(tactic| walk_at "ne") => `(tactic| first | assumption | exact Ne.symm (by assumption) | exact ne_of_none (by assumption) (by assumption) | exact Ne.symm (ne_of_none (by assumption) (by assumption)))
local macro_rules | `(tactic| walk_at "hk") => `(tactic| first
  | assumption
  | exact upd_same
  | (refine' (upd_ne ?hkne).trans ?hkq; (case hkne => walk_at "ne"); (case hkq => walk_at "hk"))
  | (refine' Ex.kp (by assumption) _ _ ?hkq ?hkn; (case hkq => walk_at "hk"); (case hkn => walk_at "nb")))
local macro_rules | `(tactic| walk_at "rd1") => `(tactic| first
  | ((with_reducible refine' x_var ?hx ?_); (case hx => exact rfl))
  | with_reducible refine x_c ?_
  | with_reducible refine x_op ?_
  | with_reducible refine x_un ?_
  | with_reducible refine x_I0 ?_
  | with_reducible refine x_U ?_
  | ((with_reducible refine x_I ?hc ?_); (case hc => first | exact (by decide : (0 : Int) < _) | (show (0 : Int) < _; omega) | (show CMul _ _; first | exact .inl ⟨by omega, by omega⟩ | exact .inr ⟨by omega, by omega⟩) | (show CDiv _ _; exact ⟨by omega, by omega⟩) | (show CDivW _ _; exact wide_div (b := 200) (by omega) (by assumption) (by decide) (by decide)) | (show CDivW _ _; exact wide_div (b := 31) (by omega) (by omega) (by decide) (by decide))))
  | with_reducible refine x_EqI ?_
  | with_reducible refine x_NeI ?_
  | ((with_reducible refine x_EqSt ?h ?_); (case h => decide +kernel))
  | ((with_reducible refine x_EqSf ?h ?_); (case h => decide +kernel))
  | ((with_reducible refine x_NeSt ?h ?_); (case h => decide +kernel))
  | ((with_reducible refine x_NeSf ?h ?_); (case h => decide +kernel))
  | with_reducible refine x_EqS ?_
  | with_reducible refine x_NeS ?_
  | ((with_reducible refine' x_ixL ?hq ?hi ?_); (case hq => walk_at "hk"); (case hi => first | exact rfl | assumption))
  | ((with_reducible refine' x_ixT ?hq ?hi ?_); (case hq => walk_at "hk"); (case hi => first | exact rfl | assumption))
  | with_reducible refine x_chain ?_
  | with_reducible refine x_tup ?_
  | with_reducible refine x_lst ?_
  | ((with_reducible refine x_lenNew ?hl ?_); (case hl => exact Nat.le_of_ble_eq_true rfl); intro _ _ _ _ _)
  | ((with_reducible refine x_new ?_); intro _ _ _ _ _)
  | with_reducible refine x_sl ?_
  | with_reducible refine x_noPart ?_
  | with_reducible refine x_part ?_
  | with_reducible refine x_ex_int ?_
  | with_reducible refine x_ex_bl ?_
  | with_reducible refine x_ex_2 ?_
  | with_reducible refine x_test ?_
  | with_reducible refine x_B ?_
  | with_reducible refine x_and ?_
  | with_reducible refine x_or ?_
  | with_reducible refine x_not ?_
  | with_reducible refine x_andV ?_
  | with_reducible refine x_orV ?_
  | with_reducible refine x_notV ?_
  | with_reducible refine x_ifE ?_
  | with_reducible refine x_iteT ?_
  | with_reducible refine x_iteF ?_
  | ((with_reducible refine x_iteD ?_ ?_) <;> intro _)
  | ((with_reducible refine x_iteN ?_ ?_) <;> intro _)
  | with_reducible refine x_if ?_
  | with_reducible refine x_seq ?_
  | with_reducible refine x_next ?_
  | with_reducible refine x_asg ?_
  | with_reducible refine x_gName ?_
  | ((with_reducible refine' x_gTup ?hq ?hn ?_); (case hq => walk_at "hk"); (case hn => exact rfl))
  | with_reducible refine x_gCons ?_
  | with_reducible refine x_gNil ?_
  | ((with_reducible refine' x_gConsE ?h ?_); (case h => exact rfl))
  | ((with_reducible refine x_gNilE ?h ?_); (case h => exact rfl))
  | with_reducible refine x_ret ?_
  | with_reducible refine x_drop ?_
  | with_reducible refine x_par ?_
  | ((with_reducible refine' x_aug ?hx ?_); (case hx => exact rfl))
  | with_reducible refine x_ipI ?_
  | with_reducible refine x_augS ?_
  | with_reducible refine x_gSub ?_
  | ((with_reducible refine' x_setL ?hq ?hi ?_); (case hq => walk_at "hk"); (case hi => first | exact rfl | assumption))
  | with_reducible refine x_cons ?_
  | with_reducible refine x_nil ?_
  | with_reducible refine x_CB ?_
  | with_reducible refine x_abs ?_
  | with_reducible refine x_intI ?_
  | with_reducible refine x_intB ?_
  | ((with_reducible refine' x_lenL ?hq ?_); (case hq => walk_at "hk"))
  | ((with_reducible refine' x_lenT ?hq ?_); (case hq => walk_at "hk"))
  | ((with_reducible refine x_iteTe ?h ?_); (case h => exact rfl))
  | ((with_reducible refine x_iteFe ?h ?_); (case h => exact rfl))
  | walk_at "use"
  | with_reducible refine x_callS ?_
  | ((with_reducible refine x_lc ?_))
  | ((with_reducible refine x_for ?_))
  | ((with_reducible refine x_iR1 ?_))
  | ((with_reducible refine x_iL ?_))
  | ((with_reducible refine x_iZ ?_))
  | ((with_reducible refine x_yes ?_))
  | ((with_reducible refine' x_NIDt ?hq ?_); (case hq => assumption))
  | ((with_reducible refine' x_NIDf ?hq ?_); (case hq => assumption))
  | ((with_reducible refine' x_IIDf ?hq ?_); (case hq => assumption))
  | ((with_reducible refine' x_IIDt ?hq ?_); (case hq => assumption))
  | ((with_reducible refine' x_ixDs ?hd ?hq ?_); (case hd => assumption); (case hq => assumption))
  | ((with_reducible refine x_InSt ?h ?_); (case h => decide +kernel))
  | ((with_reducible refine x_InSf ?h ?_); (case h => decide +kernel))
  | ((with_reducible refine' x_notInI ?hq ?_); (case hq => walk_at "hk"))
  | ((with_reducible refine' x_inTt ?hq ?hv ?ha ?he ?_); (case hq => walk_at "hk"); (case hv => exact rfl); (case ha => exact rfl); (case he => decide +kernel))
  | ((with_reducible refine' x_inTf ?hq ?hv ?ha ?he ?_); (case hq => walk_at "hk"); (case hv => exact rfl); (case ha => exact rfl); (case he => decide +kernel))
  | ((with_reducible refine' x_slT ?hq ?hw ?_); (case hq => walk_at "hk"); (case hw => with_unfolding_all exact of_decide_eq_true rfl))
  | ((with_reducible refine' x_slL ?hq ?_); (case hq => walk_at "hk"))
  | ((with_reducible refine' x_catT ?hq ?hr ?n1 ?n2 ?hl ?_); (case hq => walk_at "hk"); (case hr => walk_at "hk"); (case n1 => exact List.cons_ne_nil _ _); (case n2 => exact List.cons_ne_nil _ _); (case hl => exact Nat.le_of_ble_eq_true rfl))
  | ((with_reducible refine x_bm ?_))
  | ((with_reducible refine x_lstRg ?_))
  | ((with_reducible refine x_rg1 ?_))
  | ((with_reducible refine And.intro ?h ?_); (case h => exact tyL (by assumption)))
  | dsimp only)
local macro_rules | `(tactic| walk_at "use") => `(tactic| fail)
local macro_rules | `(tactic| walk_at "rd") => `(tactic| repeat' (walk_at "rd1"))
local macro_rules | `(tactic| walk_at "ex") => `(tactic| first | exact Ex.refl _ | assumption | (refine' Ex.trans ?he (by assumption); (case he => walk_at "ex")))
local macro_rules | `(tactic| walk_at "rd1") => `(tactic| first
  | ((with_reducible refine x_iteDf ?h ?_); (case h => exact rfl))
  | ((with_reducible refine x_iteDt ?h ?_); (case h => exact rfl))
  | ((with_reducible refine x_iteNf ?h ?_); (case h => exact rfl))
  | ((with_reducible refine x_iteNt ?h ?_); (case h => exact rfl))
  | ((with_reducible refine x_isiI (r := true) ?h ?_); (case h => decide +kernel))
  | ((with_reducible refine x_isiI (r := false) ?h ?_); (case h => decide +kernel))
  | ((with_reducible refine x_isiS (r := true) ?h ?_); (case h => decide +kernel))
  | ((with_reducible refine x_isiS (r := false) ?h ?_); (case h => decide +kernel))
  | ((with_reducible refine x_isiB (r := true) ?h ?_); (case h => decide +kernel))
  | ((with_reducible refine x_isiB (r := false) ?h ?_); (case h => decide +kernel))
  | ((with_reducible refine' x_isiT (r := true) ?hp ?h ?_); (case hp => walk_at "hk"); (case h => decide +kernel))
  | ((with_reducible refine' x_isiT (r := false) ?hp ?h ?_); (case hp => walk_at "hk"); (case h => decide +kernel))
  | ((with_reducible refine' x_isiL (r := true) ?hp ?h ?_); (case hp => walk_at "hk"); (case h => decide +kernel))
  | ((with_reducible refine' x_isiL (r := false) ?hp ?h ?_); (case hp => walk_at "hk"); (case h => decide +kernel))
  | ((with_reducible refine' x_isi2L ?hp ?hl ?_); (case hp => walk_at "hk"); (case hl => walk_at "hk"))
  | ((with_reducible refine' x_isi2T ?hp ?hl ?_); (case hp => walk_at "hk"); (case hl => walk_at "hk"))
  | ((with_reducible refine' x_tupOfL ?hq ?_); (case hq => walk_at "hk"))
  | ((with_reducible refine' x_tupOfT ?hq ?_); (case hq => walk_at "hk"))
  | ((with_reducible refine x_lenS ?h ?_); (case h => exact Nat.le_of_ble_eq_true rfl))
  | ((with_reducible refine' x_all ?hq ?_); (case hq => walk_at "hk"))
  | with_reducible refine x_lenSet ?_)

section
variable {P : Program} {w : World} {K : PySem.W.Frag} {mg : Str → Option Value} {base : Heap} {a : Ad} {H : Hp} {Q : VK} {E : XK} {p b : Addr} {q : C} {files : Int}
/-- the call has a k and it is not 0, its files are such and different -/
def C.kOk : C → Prop
  | .all k => k ≠ 0 | .up _ k => k ≠ 0 | .wheel _ _ k => k ≠ 0 | _ => True
structure C.Good (files : Int) (q : C) : Prop where
  fs : ∀ f ∈ q.named, 0 ≤ f ∧ f < files
  nd : q.named.Nodup
  k : q.kOk
theorem fB_of {f : Int} (h : 0 ≤ f ∧ f < files) : fB files (.int f) = true := decide_eq_true h
theorem kB_of {k : Int} (h : k ≠ 0) : kB (.int k) = true := by
  show (!decide (k = 0)) = true
  rw [decide_eq_false h]
  rfl
theorem eqB_of {f g : Int} (h : ([f, g] : List Int).Nodup) : eqB (.int f) (.int g) = false := decide_eq_false (by simpa using h)
theorem callV_good (h : H p = some (.tup q.vals)) (g : q.Good files) : callV H files (.ref p) = true := by
  rw [callV_tup h]
  obtain ⟨g1, g2, g3⟩ := g
  cases q with
  | all k => show callN files (wordNo "all") [.int k] = true; rw [show wordNo "all" = 0 by decide +kernel]; exact kB_of g3
  | up f k => show callN files (wordNo "up") [.int f, .int k] = true; rw [show wordNo "up" = 1 by decide +kernel]; simp only [callN]; rw [fB_of (g1 f (.head _)), kB_of g3]; rfl
  | swap f g => show callN files (wordNo "swap") [.int f, .int g] = true; rw [show wordNo "swap" = 2 by decide +kernel]; simp only [callN]; rw [fB_of (g1 f (.head _)), fB_of (g1 g (.tail _ (.head _))), eqB_of g2]; rfl
  | wheel f g k => show callN files (wordNo "wheel") [.int f, .int g, .int k] = true; rw [show wordNo "wheel" = 3 by decide +kernel]; simp only [callN]; rw [fB_of (g1 f (.head _)), fB_of (g1 g (.tail _ (.head _))), eqB_of g2, kB_of g3]; rfl
  | about => show callN files (wordNo "about") [] = true; rw [show wordNo "about" = 4 by decide +kernel]; rfl
  | front f g => show callN files (wordNo "front") [.int f, .int g] = true; rw [show wordNo "front" = 5 by decide +kernel]; simp only [callN]; rw [fB_of (g1 f (.head _)), fB_of (g1 g (.tail _ (.head _))), eqB_of g2]; rfl
  | halve => show callN files (wordNo "halve") [] = true; rw [show wordNo "halve" = 6 by decide +kernel]; rfl
  | pair => show callN files (wordNo "pair") [] = true; rw [show wordNo "pair" = 7 by decide +kernel]; rfl
  | others => show callN files (wordNo "others") [] = true; rw [show wordNo "others" = 8 by decide +kernel]; rfl
  | fill => show callN files (wordNo "fill") [] = true; rw [show wordNo "fill" = 9 by decide +kernel]; rfl
theorem vals_form (q : C) : ∃ (z : Str) (is : List Int), q.vals = .str z :: is.map V.int ∧ z ∈ tens ∧ is.length ≤ 3 := by
  cases q with
  | all k => exact ⟨"all", [k], rfl, by decide +kernel, by show 1 ≤ 3; decide⟩
  | up f k => exact ⟨"up", [f, k], rfl, by decide +kernel, by show 2 ≤ 3; decide⟩
  | swap f g => exact ⟨"swap", [f, g], rfl, by decide +kernel, by show 2 ≤ 3; decide⟩
  | wheel f g k => exact ⟨"wheel", [f, g, k], rfl, by decide +kernel, by show 3 ≤ 3; decide⟩
  | about => exact ⟨"about", [], rfl, by decide +kernel, by decide⟩
  | front f g => exact ⟨"front", [f, g], rfl, by decide +kernel, by show 2 ≤ 3; decide⟩
  | halve => exact ⟨"halve", [], rfl, by decide +kernel, by decide⟩
  | pair => exact ⟨"pair", [], rfl, by decide +kernel, by decide⟩
  | others => exact ⟨"others", [], rfl, by decide +kernel, by decide⟩
  | fill => exact ⟨"fill", [], rfl, by decide +kernel, by decide⟩
theorem vals_each {x : V} (h : x ∈ q.vals) : Thing K H x ∧ Wd x := by
  obtain ⟨z, is, e, hz, _⟩ := vals_form q
  rw [e] at h
  rcases List.mem_cons.mp h with h | h
  · rw [h]
    exact ⟨.str z, fun y hy => by cases hy; exact List.mem_append_left _ hz⟩
  · obtain ⟨i, _, rfl⟩ := List.mem_map.mp h
    exact ⟨.int i, fun y hy => by cases hy⟩
theorem jdg_good (h : H p = some (.tup q.vals)) : Jdg K H (.ref p) := ⟨.tup h, fun p' xs e hx x hm => by
  cases e
  rw [h] at hx
  cases hx
  exact vals_each hm⟩
theorem u_is_call (h : H p = some (.tup q.vals)) (g : q.Good files) (k : ∀ H1, Ex H H1 → Q (.bl true) H1) : sp_is_call K [.int files, .ref p] H Q E := u_is_callV (jdg_good h) fun H1 e => by rw [callV_good h g]; exact k H1 e
end
end My

set_option Elab.async false
set_option linter.all false
set_option maxRecDepth 100000
set_option maxHeartbeats 8000000
namespace My
open PySem PySem.Spec PyProof.Rows L2 Sx
local macro_rules | `(tactic| walk_at "nb") => `(tactic| first | exact NB.tup | exact NB.ints | exact NB.len (of_decide_eq_true rfl) | exact NB.at0b rfl | exact NB.at3b rfl | exact NB.ins | exact NB.own | exact NB.frz | exact NB.refs (by assumption) | assumption)
local macro_rules | `(tactic| walk_at "ne") => `(tactic| first | assumption | exact Ne.symm (by assumption) | exact ne_of_none (by assumption) (by assumption) | exact Ne.symm (ne_of_none (by assumption) (by assumption)))
local macro_rules | `(tactic| walk_at "hk") => `(tactic| first
  | assumption
  | exact upd_same
  | (refine' (upd_ne ?hkne).trans ?hkq; (case hkne => walk_at "ne"); (case hkq => walk_at "hk"))
  | (refine' Ex.kp (by assumption) _ _ ?hkq ?hkn; (case hkq => walk_at "hk"); (case hkn => walk_at "nb")))
local macro_rules | `(tactic| walk_at "rd1") => `(tactic| first
  | ((with_reducible refine' x_var ?hx ?_); (case hx => exact rfl))
  | with_reducible refine x_c ?_
  | with_reducible refine x_op ?_
  | with_reducible refine x_un ?_
  | with_reducible refine x_I0 ?_
  | with_reducible refine x_U ?_
  | ((with_reducible refine x_I ?hc ?_); (case hc => first | exact (by decide : (0 : Int) < _) | (show (0 : Int) < _; omega) | (show CMul _ _; first | exact .inl ⟨by omega, by omega⟩ | exact .inr ⟨by omega, by omega⟩) | (show CDiv _ _; exact ⟨by omega, by omega⟩) | (show CDivW _ _; exact wide_div (b := 200) (by omega) (by assumption) (by decide) (by decide)) | (show CDivW _ _; exact wide_div (b := 31) (by omega) (by omega) (by decide) (by decide))))
  | with_reducible refine x_EqI ?_
  | with_reducible refine x_NeI ?_
  | ((with_reducible refine x_EqSt ?h ?_); (case h => decide +kernel))
  | ((with_reducible refine x_EqSf ?h ?_); (case h => decide +kernel))
  | ((with_reducible refine x_NeSt ?h ?_); (case h => decide +kernel))
  | ((with_reducible refine x_NeSf ?h ?_); (case h => decide +kernel))
  | with_reducible refine x_EqS ?_
  | with_reducible refine x_NeS ?_
  | ((with_reducible refine' x_ixL ?hq ?hi ?_); (case hq => walk_at "hk"); (case hi => first | exact rfl | assumption))
  | ((with_reducible refine' x_ixT ?hq ?hi ?_); (case hq => walk_at "hk"); (case hi => first | exact rfl | assumption))
  | with_reducible refine x_chain ?_
  | with_reducible refine x_tup ?_
  | with_reducible refine x_lst ?_
  | ((with_reducible refine x_lenNew ?hl ?_); (case hl => exact Nat.le_of_ble_eq_true rfl); intro _ _ _ _ _)
  | ((with_reducible refine x_new ?_); intro _ _ _ _ _)
  | with_reducible refine x_sl ?_
  | with_reducible refine x_noPart ?_
  | with_reducible refine x_part ?_
  | with_reducible refine x_ex_int ?_
  | with_reducible refine x_ex_bl ?_
  | with_reducible refine x_ex_2 ?_
  | with_reducible refine x_test ?_
  | with_reducible refine x_B ?_
  | with_reducible refine x_and ?_
  | with_reducible refine x_or ?_
  | with_reducible refine x_not ?_
  | with_reducible refine x_andV ?_
  | with_reducible refine x_orV ?_
  | with_reducible refine x_notV ?_
  | with_reducible refine x_ifE ?_
  | with_reducible refine x_iteT ?_
  | with_reducible refine x_iteF ?_
  | ((with_reducible refine x_iteD ?_ ?_) <;> intro _)
  | ((with_reducible refine x_iteN ?_ ?_) <;> intro _)
  | with_reducible refine x_if ?_
  | with_reducible refine x_seq ?_
  | with_reducible refine x_next ?_
  | with_reducible refine x_asg ?_
  | with_reducible refine x_gName ?_
  | ((with_reducible refine' x_gTup ?hq ?hn ?_); (case hq => walk_at "hk"); (case hn => exact rfl))
  | with_reducible refine x_gCons ?_
  | with_reducible refine x_gNil ?_
  | ((with_reducible refine' x_gConsE ?h ?_); (case h => exact rfl))
  | ((with_reducible refine x_gNilE ?h ?_); (case h => exact rfl))
  | with_reducible refine x_ret ?_
  | with_reducible refine x_drop ?_
  | with_reducible refine x_par ?_
  | ((with_reducible refine' x_aug ?hx ?_); (case hx => exact rfl))
  | with_reducible refine x_ipI ?_
  | with_reducible refine x_augS ?_
  | with_reducible refine x_gSub ?_
  | ((with_reducible refine' x_setL ?hq ?hi ?_); (case hq => walk_at "hk"); (case hi => first | exact rfl | assumption))
  | with_reducible refine x_cons ?_
  | with_reducible refine x_nil ?_
  | with_reducible refine x_CB ?_
  | with_reducible refine x_abs ?_
  | with_reducible refine x_intI ?_
  | with_reducible refine x_intB ?_
  | ((with_reducible refine' x_lenL ?hq ?_); (case hq => walk_at "hk"))
  | ((with_reducible refine' x_lenT ?hq ?_); (case hq => walk_at "hk"))
  | ((with_reducible refine x_iteTe ?h ?_); (case h => exact rfl))
  | ((with_reducible refine x_iteFe ?h ?_); (case h => exact rfl))
  | walk_at "use"
  | with_reducible refine x_callS ?_
  | ((with_reducible refine x_lc ?_))
  | ((with_reducible refine x_for ?_))
  | ((with_reducible refine x_iR1 ?_))
  | ((with_reducible refine x_iL ?_))
  | ((with_reducible refine x_iZ ?_))
  | ((with_reducible refine x_yes ?_))
  | ((with_reducible refine' x_NIDt ?hq ?_); (case hq => assumption))
  | ((with_reducible refine' x_NIDf ?hq ?_); (case hq => assumption))
  | ((with_reducible refine' x_IIDf ?hq ?_); (case hq => assumption))
  | ((with_reducible refine' x_IIDt ?hq ?_); (case hq => assumption))
  | ((with_reducible refine' x_ixDs ?hd ?hq ?_); (case hd => assumption); (case hq => assumption))
  | ((with_reducible refine x_InSt ?h ?_); (case h => decide +kernel))
  | ((with_reducible refine x_InSf ?h ?_); (case h => decide +kernel))
  | ((with_reducible refine' x_notInI ?hq ?_); (case hq => walk_at "hk"))
  | ((with_reducible refine' x_inTt ?hq ?hv ?ha ?he ?_); (case hq => walk_at "hk"); (case hv => exact rfl); (case ha => exact rfl); (case he => decide +kernel))
  | ((with_reducible refine' x_inTf ?hq ?hv ?ha ?he ?_); (case hq => walk_at "hk"); (case hv => exact rfl); (case ha => exact rfl); (case he => decide +kernel))
  | ((with_reducible refine' x_slT ?hq ?hw ?_); (case hq => walk_at "hk"); (case hw => with_unfolding_all exact of_decide_eq_true rfl))
  | ((with_reducible refine' x_slL ?hq ?_); (case hq => walk_at "hk"))
  | ((with_reducible refine' x_catT ?hq ?hr ?n1 ?n2 ?hl ?_); (case hq => walk_at "hk"); (case hr => walk_at "hk"); (case n1 => exact List.cons_ne_nil _ _); (case n2 => exact List.cons_ne_nil _ _); (case hl => exact Nat.le_of_ble_eq_true rfl))
  | ((with_reducible refine x_bm ?_))
  | ((with_reducible refine x_lstRg ?_))
  | ((with_reducible refine x_rg1 ?_))
  | ((with_reducible refine And.intro ?h ?_); (case h => exact tyL (by assumption)))
  | dsimp only)
local macro_rules | `(tactic| walk_at "use") => `(tactic| fail)
local macro_rules | `(tactic| walk_at "rd") => `(tactic| repeat' (walk_at "rd1"))
local macro_rules | `(tactic| walk_at "ex") => `(tactic| first | exact Ex.refl _ | assumption | (refine' Ex.trans ?he (by assumption); (case he => walk_at "ex")))

local macro_rules | `(tactic| walk_at "bg") => `(tactic| first | assumption | exact Ex.bag (by assumption) (by walk_at "bg"))
section
variable {P : Program} {w : World} {K : PySem.W.Frag} {mg : Str → Option Value} {base : Heap} {a : Ad} {H H1 H' : Hp} {Q : VK} {E : XK} {p b s : Addr} {q : C}
/-! the draws -/
def sp_Ltake : Sp := fun vs H Q _ => ∃ (b : Addr) (m : Int), vs = [.ref b, .int m] ∧ Bag b H ∧ 0 < m ∧ m < 1073741824 ∧ ∀ d H1, Ex H H1 → 0 ≤ d → d < m → Q (.int d) H1
theorem u_Ltake {m : Int} (hb : Bag b H) (h0 : 0 < m) (h1 : m < 1073741824) (k : ∀ d H1, Ex H H1 → 0 ≤ d → d < m → Q (.int d) H1) : sp_Ltake [.ref b, .int m] H Q E := ⟨b, m, rfl, hb, h0, h1, k⟩
theorem ok_Ltake (T : Txt K w mg a) : FnOk P w K mg base CX0 1 a.a_Ltake a.fd_Ltake ["_law_bag_here", "_law_many"] sp_Ltake := by
  refine T.F_Ltake.ok sc_Ltake (fun vs H Q E h => ?_) (fun cdv A outer s H vs Q E hr h => ?_)
  · obtain ⟨b, m, rfl, _⟩ := h; rfl
  · obtain ⟨b, m, rfl, ⟨c, ⟨x, y, z, ns, hb, hc, hx, hy, hy2, hz⟩⟩, hm, hm2, k⟩ := h
    have hcb : c ≠ b := ne_of hc hb (NB.ints x y z c)
    have fin : ∀ (H1 : Hp) (v x' y' z' : Int), (∀ a, a ≠ b → H1 a = H a) → H1 b = some (.lst [.int x', .int y', .int z', .ref c]) → 0 ≤ x' → 0 ≤ y' → y' < 2147483647 → 0 ≤ z' → Q (.int (v % m)) H1 := by
      intro H1 v x' y' z' s1 s2 s3 s4 s5 s6
      exact k _ _ (Ex.bagTo hb s1 s2 s3 s4 s5 s6) (Int.emod_nonneg _ (by omega)) (Int.emod_lt_of_pos _ hm)
    refine ⟨_, (pss_cons (ps_if (pt_cmpR op_eq (pe_ix ix_list (pv 0) pe_int (fun _ _ => rfl)) pe_int (nomark _)) (pss_cons (ps_set (i := 2) sc_Ltake.nd rfl (Or.inl rfl) pe_int)
      (pss_cons (ps_if (pt_cmpR op_lt (pe_ix ix_list (pv 0) pe_int (fun _ _ => rfl)) (pe_callB c_len (by rfl) T.n_len PySem.boot_len (pa_cons (pe_ix ix_list (pv 0) pe_int (fun _ _ => rfl)) pa_nil)) (nomark _)) (pss_one (ps_set (i := 2) sc_Ltake.nd rfl (Or.inl rfl) (pe_ix ix_list (pe_ix ix_list (pv 0) pe_int (fun _ _ => rfl)) (pe_ix ix_list (pv 0) pe_int (fun _ _ => rfl)) (fun _ _ => rfl)))) pss_nil)
      (pss_cons (ps_augS (pv 0) pe_int get_list pe_int ip_add set_list)
      (pss_cons (ps_if (pt_cmpR op_ge (pv 2) pe_int (nomark _)) (pss_one (ps_asg (pv 2) (pg_sub (pv 0) pe_int set_list))) pss_nil)
      (pss_cons (ps_set (i := 3) sc_Ltake.nd rfl (Or.inl rfl) (pe_op op_add (pe_op op_add (pe_op op_mul (pe_ix ix_list (pv 0) pe_int (fun _ _ => rfl)) pe_int) (pe_op op_mod (pe_callTy c_int (by rfl) T.n_int (by decide +kernel) (pa_cons (pv 2) pa_nil)) pe_int)) (pe_op op_mul pe_int (pe_ix ix_list (pv 0) pe_int (fun _ _ => rfl)))))
      (pss_one (ps_asg (pe_op op_mod (pe_callTy c_int (by rfl) T.n_int (by decide +kernel) (pa_cons (pv 3) pa_nil)) pe_int) (pg_sub (pv 0) pe_int set_list)))))))) pss_nil)
      (pss_cons (ps_if (pt_cmpR op_gt (pe_ix ix_list (pv 0) pe_int (fun _ _ => rfl)) pe_int (nomark _)) (pss_cons (ps_set (i := 4) sc_Ltake.nd rfl (Or.inl rfl) (pe_op op_mod (pe_callTy c_int (by rfl) T.n_int (by decide +kernel) (pa_cons (pe_ix ix_list (pv 0) pe_int (fun _ _ => rfl)) pa_nil)) (pv 1)))
      (pss_cons (ps_asg (pe_op op_fdivW (pe_callTy c_int (by rfl) T.n_int (by decide +kernel) (pa_cons (pe_ix ix_list (pv 0) pe_int (fun _ _ => rfl)) pa_nil)) (pv 1)) (pg_sub (pv 0) pe_int set_list))
      (pss_one (ps_ret (pv 4))))) pss_nil)
      (pss_cons (ps_set (i := 5) sc_Ltake.nd rfl (Or.inl rfl) (pe_op op_mod (pe_callTy c_int (by rfl) T.n_int (by decide +kernel) (pa_cons (pe_op op_mul (pe_op op_add (pe_ix ix_list (pv 0) pe_int (fun _ _ => rfl)) pe_int) pe_int) pa_nil)) pe_int))
      (pss_cons (ps_set (i := 6) sc_Ltake.nd rfl (Or.inl rfl) (pe_op op_mod (pe_callTy c_int (by rfl) T.n_int (by decide +kernel) (pa_cons (pe_op op_mul (pe_op op_mod (pe_callTy c_int (by rfl) T.n_int (by decide +kernel) (pa_cons (pe_op op_mul (pv 5) (pv 5)) pa_nil)) pe_int) pe_int) pa_nil)) pe_int))
      (pss_one (ps_ret (pe_op op_mod (pe_callTy c_int (by rfl) T.n_int (by decide +kernel) (pa_cons (pe_op op_fdiv (pv 6) pe_int) pa_nil)) (pv 1)))))))), ?_⟩
    walk_at "rd"
    rotate_left
    all_goals try (exfalso; omega)
    rotate_right
    · rename_i hlt
      obtain ⟨n, hn⟩ := at_map (ns := ns) hz hlt
      refine x_ixL hc hn ?_
      walk_at "rd"
      all_goals try (exfalso; omega)
      all_goals try exact fin _ _ _ _ _ (fun a n => by simp only [upd, if_neg n]) (by first | exact hb | exact upd_same) (by first | omega | exact Int.ediv_nonneg (by omega) (by omega)) (by omega) (by omega) (by omega)
    all_goals try (exfalso; omega)
    all_goals try exact fin _ _ _ _ _ (fun a n => by simp only [upd, if_neg n]) (by first | exact hb | exact upd_same) (by first | omega | exact Int.ediv_nonneg (by omega) (by omega)) (by omega) (by omega) (by omega)
local macro_rules | `(tactic| walk_at "use") => `(tactic| ((with_reducible refine' u_Ltake ?hb ?h0 ?h1 ?_); (case hb => walk_at "bg"); (case h0 => omega); (case h1 => omega); intro _ _ _ _ _))
theorem x_slLq {xs : List V} {lo hi : Option Int} (h : SqL K H s xs) (k : JustNew (.lst (cutV xs lo hi)) H Q) : rSlL K (.ref s) lo hi H Q := ⟨s, xs, rfl, h, k⟩
theorem cut_ints (ns : List Int) (lo hi : Option Int) : ∃ ms : List Int, cutV (ns.map V.int) lo hi = ms.map V.int ∧ ms.length ≤ ns.length := by
  refine ⟨(ns.drop (HT.sIx (ns.map V.int).length 0 lo)).take (HT.sIx (ns.map V.int).length (ns.map V.int).length hi - HT.sIx (ns.map V.int).length 0 lo), ?_, ?_⟩
  · unfold cutV
    rw [List.map_take, List.map_drop]
  · rw [List.length_take, List.length_drop]
    omega
def sp_Lbag (K : PySem.W.Frag) : Sp := fun vs H Q _ => ∃ (s : Addr) (ns : List Int), vs = [.ref s] ∧ SqL K H s (ns.map V.int) ∧ ns.length ≤ 63 ∧ ∀ b H1, Ex H H1 → Bag b H1 → Q (.ref b) H1
theorem u_Lbag {ns : List Int} (h : SqL K H s (ns.map V.int)) (hl : ns.length ≤ 63) (k : ∀ b H1, Ex H H1 → Bag b H1 → Q (.ref b) H1) : sp_Lbag K [.ref s] H Q E := ⟨s, ns, rfl, h, hl, k⟩
theorem ok_Lbag (T : Txt K w mg a) : FnOk P w K mg base CX0 1 a.a_Lbag a.fd_Lbag ["_law_script"] (sp_Lbag K) := by
  refine T.F_Lbag.ok sc_Lbag (fun vs H Q E h => ?_) (fun cdv A outer s H vs Q E hr h => ?_)
  · obtain ⟨s, ns, rfl, _⟩ := h; rfl
  · obtain ⟨s, ns, rfl, hs, hl, k⟩ := h
    refine ⟨_, (pss_one (ps_ret (pe_lst (pa_cons pe_int (pa_cons pe_int (pa_cons pe_int (pa_cons (pe_lc (own := [("_law_cell", 1)]) rfl sc_Lbag.nd (pi_list (pe_slice sl_list (pv 0) po_none (po_some pe_int))) (blkOk_by (own := [("_law_cell", 1)]) (N := ["_law_script", "_law_cell"]) (sc := defScope s_Lbag) (by decide +kernel)) (fun _ _ _ _ _ => (pg_name (i := 1) sc_Lbag.nd rfl (Or.inl rfl) (Or.inr rfl))) (fun _ _ _ _ _ => pts_nil) (fun _ _ _ _ _ => (pe_callB c_abs (by rfl) T.n_abs (by decide +kernel) (pa_cons (pv 1) pa_nil)))) pa_nil))))))), ?_⟩
    walk_at "rd"
    refine x_slLq hs ?_
    walk_at "rd"
    rename_i p1 H1 e1 f1 h1
    obtain ⟨ms, em, lm⟩ := cut_ints ns none (some 63)
    rw [em] at h1
    refine lc_lst h1 NB.ints (fun i acc _ => (∃ ks : List Int, acc = ks.map V.int) ∧ acc.length = i ∧ i ≤ ms.length) ⟨⟨[], rfl⟩, rfl, Nat.zero_le _⟩ (fun _ _ _ _ _ h => h) (fun i acc _ h => ?_) (fun x => rfl) (fun i x acc H' hx e hI kk k1 k2 => ?_) (fun p ys H2 e hp hy hI => ?_)
    · obtain ⟨⟨ks, rfl⟩, h2, h3⟩ := h
      exact ⟨NB.ints, Nat.lt_of_le_of_lt (show _ ≤ 63 by omega) (by decide)⟩
    · rw [List.getElem?_map] at hx
      cases hx' : ms[i]? with
      | none => rw [hx'] at hx; cases hx
      | some n =>
        rw [hx'] at hx
        have en : V.int n = x := Option.some.inj hx
        subst en
        have hi := (List.getElem?_eq_some_iff.mp hx').1
        walk_at "rd"
        obtain ⟨⟨ks, rfl⟩, h2, h3⟩ := hI
        exact k1 _ _ (Ex.refl _) ⟨⟨ks ++ [if n < 0 then -n else n], by rw [List.map_append]; rfl⟩, by simp [h2], hi⟩
    · obtain ⟨⟨ks, rfl⟩, h2, h3⟩ := hI
      walk_at "rd"
      rename_i p3 H3 e3 f3 h3'
      exact k _ _ ((e1.trans e).trans e3) ⟨p, _, _, _, ks, h3', e3.kp _ _ hy NB.ints, by decide, by decide, by decide, by decide⟩
def sp_Lone : Sp := fun vs H Q _ => ∃ (b s : Addr) (xs : List V), vs = [.ref b, .ref s] ∧ Bag b H ∧ H s = some (.lst xs) ∧ NB (.lst xs) ∧ 0 < xs.length ∧ xs.length < 1073741824 ∧ ∀ v H1, Ex H H1 → v ∈ xs → Q v H1
theorem u_Lone {xs : List V} (hb : Bag b H) (hs : H s = some (.lst xs)) (nb : NB (.lst xs)) (h0 : 0 < xs.length) (h1 : xs.length < 1073741824) (k : ∀ v H1, Ex H H1 → v ∈ xs → Q v H1) : sp_Lone [.ref b, .ref s] H Q E := ⟨b, s, xs, rfl, hb, hs, nb, h0, h1, k⟩
theorem ok_Lone (T : Txt K w mg a) : FnOk P w K mg base CX0 2 a.a_Lone a.fd_Lone ["_law_bag_here", "_law_some"] sp_Lone := by
  refine T.F_Lone.ok sc_Lone (fun vs H Q E h => ?_) (fun cdv A outer s H vs Q E hr h => ?_)
  · obtain ⟨b, s, xs, rfl, _⟩ := h; rfl
  · obtain ⟨b, s, xs, rfl, hb, hs, nb, h0, h1, k⟩ := h
    have G_Ltake := ok_Ltake (P := P) (base := base) T
    refine ⟨_, (pss_one (ps_ret (pe_ix ix_list (pv 1) (pe_call G_Ltake (hr.mono (by decide)) (by rfl) T.m_Ltake T.k_Ltake T.b_Ltake .nil pass0 (pa_cons (pv 0) (pa_cons (pe_callB c_len (by rfl) T.n_len PySem.boot_len (pa_cons (pv 1) pa_nil)) pa_nil))) (fun _ _ => rfl)))), ?_⟩
    walk_at "rd"
    rename_i d H1 e1 d0 d1
    have hl : d.toNat < xs.length := by omega
    refine x_ixL (by walk_at "hk") (at_nat d0 (List.getElem?_eq_getElem hl)) ?_
    exact k _ _ e1 (List.getElem_mem hl)
def sp_Lmixed : Sp := fun vs H Q _ => ∃ (b s : Addr) (ns : List Int), vs = [.ref b, .ref s] ∧ Bag b H ∧ H s = some (.lst (ns.map V.int)) ∧ ns.length ≤ 1000 ∧ ∀ p1 (ms : List Int) H1, Ex H H1 → H1 p1 = some (.lst (ms.map V.int)) → ms.Perm ns → Q (.ref p1) H1
theorem u_Lmixed {ns : List Int} (hb : Bag b H) (hs : H s = some (.lst (ns.map V.int))) (hl : ns.length ≤ 1000) (k : ∀ p1 (ms : List Int) H1, Ex H H1 → H1 p1 = some (.lst (ms.map V.int)) → ms.Perm ns → Q (.ref p1) H1) : sp_Lmixed [.ref b, .ref s] H Q E := ⟨b, s, ns, rfl, hb, hs, hl, k⟩
theorem ok_Lmixed (T : Txt K w mg a) : FnOk P w K mg base CX0 2 a.a_Lmixed a.fd_Lmixed ["_law_bag_here", "_law_things"] sp_Lmixed := by
  refine T.F_Lmixed.ok sc_Lmixed (fun vs H Q E h => ?_) (fun cdv A outer s H vs Q E hr h => ?_)
  · obtain ⟨b, s, ns, rfl, _⟩ := h; rfl
  · obtain ⟨b, s, ns, rfl, hb, hs, hl, k⟩ := h
    have G_Ltake := ok_Ltake (P := P) (base := base) T
    refine ⟨_, (pss_cons (ps_set (i := 2) sc_Lmixed.nd rfl (Or.inl rfl) (pe_lst pa_nil))
      (pss_cons (ps_for PassesOwn.never rfl (pi_list (pv 1)) (pg_name (i := 3) sc_Lmixed.nd rfl (Or.inl rfl)) (pss_one (ps_expr (pe_bm PySem.F.plainAttrs_list PySem.F.slot_list_insert PySem.F.type_list_insert c_insert (pv 2) (pa_cons (pe_call G_Ltake (hr.mono (by decide)) (by rfl) T.m_Ltake T.k_Ltake T.b_Ltake .nil pass0 (pa_cons (pv 0) (pa_cons (pe_op op_add (pe_callB c_len (by rfl) T.n_len PySem.boot_len (pa_cons (pv 2) pa_nil)) pe_int) pa_nil))) (pa_cons (pv 3) pa_nil))))))
      (pss_one (ps_ret (pv 2))))), ?_⟩
    walk_at "rd"
    rename_i l H1 e1 f1 h1
    refine for_lst (xs := ns.map V.int) (by walk_at "hk") (fun i σ H' => ∃ (ms : List Int) (v : Option V), σ = [some (.ref b), some (.ref s), some (.ref l), v] ∧ Ex H H' ∧ H' l = some (.lst (ms.map V.int)) ∧ ms.Perm (ns.take i)) ⟨[], none, rfl, e1, h1, List.Perm.refl _⟩
      (fun i σ H' _ h => ?_) (fun i x σ H' hx h => ?_) (fun σ H' h => ?_)
    · obtain ⟨_, _, _, e, _⟩ := h
      exact e.kp _ _ hs NB.ints
    · obtain ⟨ms, v, rfl, e, hL, hp⟩ := h
      rw [List.getElem?_map] at hx
      cases hx' : ns[i]? with
      | none => rw [hx'] at hx; cases hx
      | some n =>
        rw [hx'] at hx
        have en : V.int n = x := Option.some.inj hx
        subst en
        have hi := (List.getElem?_eq_some_iff.mp hx').1
        have hml : ms.length = i := by rw [hp.length_eq, List.length_take]; omega
        have lm : (ms.map V.int).length = i := by rw [List.length_map, hml]
        walk_at "rd"
        rename_i d H2 e2 d0 d1
        refine x_insert (e2.kp _ _ hL NB.ints) (by rw [lm]; exact Nat.lt_of_lt_of_le (show i < 1001 by omega) (by decide)) d0 (by omega) ?_
        refine ⟨ms.take d.toNat ++ [n] ++ ms.drop d.toNat, _, rfl, Ex.mut (e.trans e2) f1, ?_, ?_⟩
        · rw [upd_same, List.map_append, List.map_append, List.map_take, List.map_drop]
          rfl
        · rw [List.take_add_one, hx']
          refine List.Perm.trans ?_ (List.Perm.append_right _ hp)
          have e0 : ms.take d.toNat ++ ms.drop d.toNat = ms := List.take_append_drop _ _
          have : (ms.take d.toNat ++ [n] ++ ms.drop d.toNat).Perm ((ms.take d.toNat ++ ms.drop d.toNat) ++ [n]) := by
            rw [List.append_assoc, List.append_assoc]
            exact List.Perm.append_left _ List.perm_append_comm
          rw [e0] at this
          exact this
    · obtain ⟨ms, v, rfl, e, hL, hp⟩ := h
      walk_at "rd"
      refine k _ _ _ e hL ?_
      rwa [List.length_map, List.take_of_length_le (Nat.le_refl _)] at hp
def sp_Lnumber : Sp := fun vs H Q _ => ∃ (b : Addr) (m : Int), vs = [.ref b, .int m] ∧ Bag b H ∧ 0 < m ∧ m < 1000000 ∧ ∀ n H1, Ex H H1 → n ≠ 0 → n.natAbs ≤ 4 + m.natAbs → Q (.int n) H1
theorem u_Lnumber {m : Int} (hb : Bag b H) (h0 : 0 < m) (h1 : m < 1000000) (k : ∀ n H1, Ex H H1 → n ≠ 0 → n.natAbs ≤ 4 + m.natAbs → Q (.int n) H1) : sp_Lnumber [.ref b, .int m] H Q E := ⟨b, m, rfl, hb, h0, h1, k⟩
theorem ok_Lnumber (T : Txt K w mg a) : FnOk P w K mg base CX0 2 a.a_Lnumber a.fd_Lnumber ["_law_bag_here", "_law_most"] sp_Lnumber := by
  refine T.F_Lnumber.ok sc_Lnumber (fun vs H Q E h => ?_) (fun cdv A outer s H vs Q E hr h => ?_)
  · obtain ⟨b, m, rfl, _⟩ := h; rfl
  · obtain ⟨b, m, rfl, hb, h0, h1, k⟩ := h
    have G_Ltake := ok_Ltake (P := P) (base := base) T
    refine ⟨_, (pss_cons (ps_set (i := 2) sc_Lnumber.nd rfl (Or.inl rfl) (pe_op op_add pe_int (pe_call G_Ltake (hr.mono (by decide)) (by rfl) T.m_Ltake T.k_Ltake T.b_Ltake .nil pass0 (pa_cons (pv 0) (pa_cons (pe_ix ix_list (pe_lst (pa_cons pe_int (pa_cons pe_int (pa_cons pe_int (pa_cons (pv 1) pa_nil))))) (pe_call G_Ltake (hr.mono (by decide)) (by rfl) T.m_Ltake T.k_Ltake T.b_Ltake .nil pass0 (pa_cons (pv 0) (pa_cons pe_int pa_nil))) (fun _ _ => rfl)) pa_nil)))))
      (pss_one (ps_ret (pe_ifExp (pt_cmpR op_eq (pe_call G_Ltake (hr.mono (by decide)) (by rfl) T.m_Ltake T.k_Ltake T.b_Ltake .nil pass0 (pa_cons (pv 0) (pa_cons pe_int pa_nil))) pe_int (nomark _)) (pv 2) (pe_un un_neg (pv 2)))))), ?_⟩
    walk_at "rd"
    rename_i d H2 e2 d0 d1
    have hd : d = 0 ∨ d = 1 ∨ d = 2 ∨ d = 3 := by omega
    rcases hd with hd | hd | hd | hd
    all_goals (rw [hd]; walk_at "rd")
    all_goals exact k _ _ (by walk_at "ex") (by omega) (by omega)
end
end My

set_option Elab.async false
set_option linter.all false
set_option maxRecDepth 100000
set_option maxHeartbeats 8000000
namespace My
open PySem PySem.Spec PyProof.Rows L2 Sx
local macro_rules | `(tactic| walk_at "nb") => `(tactic| first | exact NB.tup | exact NB.ints | exact NB.len (of_decide_eq_true rfl) | exact NB.at0b rfl | exact NB.at3b rfl | exact NB.ins | exact NB.own | exact NB.frz | exact NB.refs (by assumption) | assumption)
local macro_rules | `(tactic| walk_at "ne") => `(tactic| first | assumption | exact Ne.symm (by assumption) | exact ne_of_none (by assumption) (by assumption) | exact Ne.symm (ne_of_none (by assumption) (by assumption)))
local macro_rules | `(tactic| walk_at "hk") => `(tactic| first
  | assumption
  | exact upd_same
  | (refine' (upd_ne ?hkne).trans ?hkq; (case hkne => walk_at "ne"); (case hkq => walk_at "hk"))
  | (refine' Ex.kp (by assumption) _ _ ?hkq ?hkn; (case hkq => walk_at "hk"); (case hkn => walk_at "nb")))
local macro_rules | `(tactic| walk_at "rd1") => `(tactic| first
  | ((with_reducible refine' x_var ?hx ?_); (case hx => exact rfl))
  | with_reducible refine x_c ?_
  | with_reducible refine x_op ?_
  | with_reducible refine x_un ?_
  | with_reducible refine x_I0 ?_
  | with_reducible refine x_U ?_
  | ((with_reducible refine x_I ?hc ?_); (case hc => first | exact (by decide : (0 : Int) < _) | (show (0 : Int) < _; omega) | (show CMul _ _; first | exact .inl ⟨by omega, by omega⟩ | exact .inr ⟨by omega, by omega⟩) | (show CDiv _ _; exact ⟨by omega, by omega⟩) | (show CDivW _ _; exact wide_div (b := 200) (by omega) (by assumption) (by decide) (by decide)) | (show CDivW _ _; exact wide_div (b := 31) (by omega) (by omega) (by decide) (by decide))))
  | with_reducible refine x_EqI ?_
  | with_reducible refine x_NeI ?_
  | ((with_reducible refine x_EqSt ?h ?_); (case h => decide +kernel))
  | ((with_reducible refine x_EqSf ?h ?_); (case h => decide +kernel))
  | ((with_reducible refine x_NeSt ?h ?_); (case h => decide +kernel))
  | ((with_reducible refine x_NeSf ?h ?_); (case h => decide +kernel))
  | with_reducible refine x_EqS ?_
  | with_reducible refine x_NeS ?_
  | ((with_reducible refine' x_ixL ?hq ?hi ?_); (case hq => walk_at "hk"); (case hi => first | exact rfl | assumption))
  | ((with_reducible refine' x_ixT ?hq ?hi ?_); (case hq => walk_at "hk"); (case hi => first | exact rfl | assumption))
  | with_reducible refine x_chain ?_
  | with_reducible refine x_tup ?_
  | with_reducible refine x_lst ?_
  | ((with_reducible refine x_lenNew ?hl ?_); (case hl => exact Nat.le_of_ble_eq_true rfl); intro _ _ _ _ _)
  | ((with_reducible refine x_new ?_); intro _ _ _ _ _)
  | with_reducible refine x_sl ?_
  | with_reducible refine x_noPart ?_
  | with_reducible refine x_part ?_
  | with_reducible refine x_ex_int ?_
  | with_reducible refine x_ex_bl ?_
  | with_reducible refine x_ex_2 ?_
  | with_reducible refine x_test ?_
  | with_reducible refine x_B ?_
  | with_reducible refine x_and ?_
  | with_reducible refine x_or ?_
  | with_reducible refine x_not ?_
  | with_reducible refine x_andV ?_
  | with_reducible refine x_orV ?_
  | with_reducible refine x_notV ?_
  | with_reducible refine x_ifE ?_
  | with_reducible refine x_iteT ?_
  | with_reducible refine x_iteF ?_
  | ((with_reducible refine x_iteD ?_ ?_) <;> intro _)
  | ((with_reducible refine x_iteN ?_ ?_) <;> intro _)
  | with_reducible refine x_if ?_
  | with_reducible refine x_seq ?_
  | with_reducible refine x_next ?_
  | with_reducible refine x_asg ?_
  | with_reducible refine x_gName ?_
  | ((with_reducible refine' x_gTup ?hq ?hn ?_); (case hq => walk_at "hk"); (case hn => exact rfl))
  | with_reducible refine x_gCons ?_
  | with_reducible refine x_gNil ?_
  | ((with_reducible refine' x_gConsE ?h ?_); (case h => exact rfl))
  | ((with_reducible refine x_gNilE ?h ?_); (case h => exact rfl))
  | with_reducible refine x_ret ?_
  | with_reducible refine x_drop ?_
  | with_reducible refine x_par ?_
  | ((with_reducible refine' x_aug ?hx ?_); (case hx => exact rfl))
  | with_reducible refine x_ipI ?_
  | with_reducible refine x_augS ?_
  | with_reducible refine x_gSub ?_
  | ((with_reducible refine' x_setL ?hq ?hi ?_); (case hq => walk_at "hk"); (case hi => first | exact rfl | assumption))
  | with_reducible refine x_cons ?_
  | with_reducible refine x_nil ?_
  | with_reducible refine x_CB ?_
  | with_reducible refine x_abs ?_
  | with_reducible refine x_intI ?_
  | with_reducible refine x_intB ?_
  | ((with_reducible refine' x_lenL ?hq ?_); (case hq => walk_at "hk"))
  | ((with_reducible refine' x_lenT ?hq ?_); (case hq => walk_at "hk"))
  | ((with_reducible refine x_iteTe ?h ?_); (case h => exact rfl))
  | ((with_reducible refine x_iteFe ?h ?_); (case h => exact rfl))
  | walk_at "use"
  | with_reducible refine x_callS ?_
  | ((with_reducible refine x_lc ?_))
  | ((with_reducible refine x_for ?_))
  | ((with_reducible refine x_iR1 ?_))
  | ((with_reducible refine x_iL ?_))
  | ((with_reducible refine x_iZ ?_))
  | ((with_reducible refine x_yes ?_))
  | ((with_reducible refine' x_NIDt ?hq ?_); (case hq => assumption))
  | ((with_reducible refine' x_NIDf ?hq ?_); (case hq => assumption))
  | ((with_reducible refine' x_IIDf ?hq ?_); (case hq => assumption))
  | ((with_reducible refine' x_IIDt ?hq ?_); (case hq => assumption))
  | ((with_reducible refine' x_ixDs ?hd ?hq ?_); (case hd => assumption); (case hq => assumption))
  | ((with_reducible refine x_InSt ?h ?_); (case h => decide +kernel))
  | ((with_reducible refine x_InSf ?h ?_); (case h => decide +kernel))
  | ((with_reducible refine' x_notInI ?hq ?_); (case hq => walk_at "hk"))
  | ((with_reducible refine' x_inTt ?hq ?hv ?ha ?he ?_); (case hq => walk_at "hk"); (case hv => exact rfl); (case ha => exact rfl); (case he => decide +kernel))
  | ((with_reducible refine' x_inTf ?hq ?hv ?ha ?he ?_); (case hq => walk_at "hk"); (case hv => exact rfl); (case ha => exact rfl); (case he => decide +kernel))
  | ((with_reducible refine' x_slT ?hq ?hw ?_); (case hq => walk_at "hk"); (case hw => with_unfolding_all exact of_decide_eq_true rfl))
  | ((with_reducible refine' x_slL ?hq ?_); (case hq => walk_at "hk"))
  | ((with_reducible refine' x_catT ?hq ?hr ?n1 ?n2 ?hl ?_); (case hq => walk_at "hk"); (case hr => walk_at "hk"); (case n1 => exact List.cons_ne_nil _ _); (case n2 => exact List.cons_ne_nil _ _); (case hl => exact Nat.le_of_ble_eq_true rfl))
  | ((with_reducible refine x_bm ?_))
  | ((with_reducible refine x_lstRg ?_))
  | ((with_reducible refine x_rg1 ?_))
  | ((with_reducible refine And.intro ?h ?_); (case h => exact tyL (by assumption)))
  | dsimp only)
local macro_rules | `(tactic| walk_at "use") => `(tactic| fail)
local macro_rules | `(tactic| walk_at "rd") => `(tactic| repeat' (walk_at "rd1"))
local macro_rules | `(tactic| walk_at "ex") => `(tactic| first | exact Ex.refl _ | assumption | (refine' Ex.trans ?he (by assumption); (case he => walk_at "ex")))
local macro_rules | `(tactic| walk_at "rd1") => `(tactic| first
  | ((with_reducible refine x_iteDf ?h ?_); (case h => exact rfl))
  | ((with_reducible refine x_iteDt ?h ?_); (case h => exact rfl))
  | ((with_reducible refine x_iteNf ?h ?_); (case h => exact rfl))
  | ((with_reducible refine x_iteNt ?h ?_); (case h => exact rfl))
  | ((with_reducible refine x_isiI (r := true) ?h ?_); (case h => decide +kernel))
  | ((with_reducible refine x_isiI (r := false) ?h ?_); (case h => decide +kernel))
  | ((with_reducible refine x_isiS (r := true) ?h ?_); (case h => decide +kernel))
  | ((with_reducible refine x_isiS (r := false) ?h ?_); (case h => decide +kernel))
  | ((with_reducible refine x_isiB (r := true) ?h ?_); (case h => decide +kernel))
  | ((with_reducible refine x_isiB (r := false) ?h ?_); (case h => decide +kernel))
  | ((with_reducible refine' x_isiT (r := true) ?hp ?h ?_); (case hp => walk_at "hk"); (case h => decide +kernel))
  | ((with_reducible refine' x_isiT (r := false) ?hp ?h ?_); (case hp => walk_at "hk"); (case h => decide +kernel))
  | ((with_reducible refine' x_isiL (r := true) ?hp ?h ?_); (case hp => walk_at "hk"); (case h => decide +kernel))
  | ((with_reducible refine' x_isiL (r := false) ?hp ?h ?_); (case hp => walk_at "hk"); (case h => decide +kernel))
  | ((with_reducible refine' x_isi2L ?hp ?hl ?_); (case hp => walk_at "hk"); (case hl => walk_at "hk"))
  | ((with_reducible refine' x_isi2T ?hp ?hl ?_); (case hp => walk_at "hk"); (case hl => walk_at "hk"))
  | ((with_reducible refine' x_tupOfL ?hq ?_); (case hq => walk_at "hk"))
  | ((with_reducible refine' x_tupOfT ?hq ?_); (case hq => walk_at "hk"))
  | ((with_reducible refine x_lenS ?h ?_); (case h => exact Nat.le_of_ble_eq_true rfl))
  | ((with_reducible refine' x_all ?hq ?_); (case hq => walk_at "hk"))
  | with_reducible refine x_lenSet ?_)

local macro_rules | `(tactic| walk_at "use") => `(tactic| with_reducible refine u_is_filesI ?_)
/-- the fields of a Script -/
def flds (fl : Int) (t : Addr) : List (Str × V) := putF "held" (.ref t) (putF "width" (.int fl) [])
section
variable {P : Program} {w : World} {K : PySem.W.Frag} {mg : Str → Option Value} {base : Heap} {a : Ad} {H : Hp} {Q : VK} {E : XK} {p b c C : Addr} {fl : Int} {xs : List V}
/-- the items of a list are calls -/
def CallsIn (H : Hp) (fl : Int) (xs : List V) : Prop := ∀ v ∈ xs, ∃ (p : Addr) (q : My.C), v = .ref p ∧ H p = some (.tup q.vals) ∧ q.Good fl
/-! Script(files, calls), calls a list -/
def sp_Script_init (C : Addr) : Sp := fun vs H Q _ => ∃ (H0 : Hp) (x dx c : Addr) (fl : Int) (xs : List V), vs = [.ref x, .int fl, .ref c] ∧ H = upd (upd H0 dx (.own x)) x (.ins C dx []) ∧ H0 x = none ∧ H0 dx = none ∧ dx ≠ x ∧
  2 ≤ fl ∧ fl ≤ 3 ∧ H0 c = some (.lst xs) ∧ NB (.lst xs) ∧ CallsIn H0 fl xs ∧ xs.length ≤ 1000 ∧ ∀ t H1, Ex H0 H1 → H1 x = some (.ins C dx (flds fl t)) → H1 t = some (.tup xs) → Q .non H1
theorem u_make {Q : Addr → Hp → Prop} (hc : H c = some (.lst xs)) (nb : NB (.lst xs)) (hg : CallsIn H fl xs) (h2 : 2 ≤ fl) (h3 : fl ≤ 3) (hl : xs.length ≤ 1000) (k : ∀ x dx t H1, Ex H H1 → H x = none → H1 x = some (.ins C dx (flds fl t)) → H1 t = some (.tup xs) → Q x H1) :
    ∀ x dx, H x = none → H dx = none → dx ≠ x → sp_Script_init C (.ref x :: [.int fl, .ref c]) (upd (upd H dx (.own x)) x (.ins C dx [])) (fun v H2 => v = .non ∧ Q x H2) E :=
  fun x dx hx hdx hn => ⟨H, x, dx, c, fl, xs, rfl, rfl, hx, hdx, hn, h2, h3, hc, nb, hg, hl, fun t H1 e h1 h2 => ⟨rfl, k x dx t H1 e hx h1 h2⟩⟩
theorem ok_Script_init (T : Txt K w mg a) : FnOk P w K mg base CX0 5 a.a_Script_init a.fd_Script_init ["self", "files", "calls"] (sp_Script_init a.c_Script) := by
  refine T.F_Script_init.ok sc_Script_init (fun vs H Q E h => ?_) (fun cdv A outer s H vs Q E hr h => ?_)
  · obtain ⟨H0, x, dx, c, fl, xs, rfl, _⟩ := h; rfl
  · obtain ⟨H0, x, dx, c, fl, xs, rfl, rfl, hx, hdx, hn, h2, h3, hc, nb, hg, hl, k⟩ := h
    have hx1 : (upd H0 dx (.own x)) x = none := by rw [upd_ne hn.symm]; exact hx
    have e0 : Ex H0 (upd (upd H0 dx (.own x)) x (.ins a.c_Script dx [])) := (Ex.new hdx).trans (Ex.new hx1)
    have G_is_files := ok_is_files (P := P) (base := base) T
    have G_is_call := ok_is_call (P := P) (base := base) T
    have ncx : c ≠ x := ne_of_none hc hx
    have hxI : (upd (upd H0 dx (.own x)) x (.ins a.c_Script dx [])) x = some (.ins a.c_Script dx []) := upd_same
    have hcI := e0.kp _ _ hc nb
    generalize (upd (upd H0 dx (.own x)) x (.ins a.c_Script dx [])) = HI at e0 hxI hcI ⊢
    refine ⟨_, (pss_cons (ps_if (pt_not (pt_val (pe_call G_is_files (hr.mono (by decide)) (by rfl) T.m_is_files T.k_is_files T.b_is_files .nil pass0 (pa_cons (pv 1) pa_nil)))) (pss_one ps_never) pss_nil)
      (pss_cons (ps_if (pt_not (pt_val (pe_callB call_isiT (by rfl) T.n_isinstance (by decide +kernel) (pa_cons (pv 2) (pa_cons (pe_tup (pa_cons (pe_bltn (v := .ty "list") (u := .type "list") (by rfl) T.n_list (by decide +kernel) rfl) (pa_cons (pe_bltn (v := .ty "tuple") (u := .type "tuple") (by rfl) T.n_tuple (by decide +kernel) rfl) pa_nil))) pa_nil))))) (pss_one ps_never) pss_nil)
      (pss_cons (ps_if (pt_not (pt_val (pe_callB (cr_all rfl) (by rfl) T.n_all (by decide +kernel) (pa_cons (pe_lc (own := [("call", 3)]) rfl sc_Script_init.nd (pi_list (pv 2)) (blkOk_by (own := [("call", 3)]) (N := ["self", "files", "calls", "call"]) (sc := defScope s_Script_init) (by decide +kernel)) (fun _ _ _ _ _ => (pg_name (i := 3) sc_Script_init.nd rfl (Or.inl rfl) (Or.inr rfl))) (fun _ _ _ _ _ => pts_nil) (fun _ _ _ _ _ => (pe_call G_is_call (hr.mono (by decide)) (by rfl) T.m_is_call T.k_is_call T.b_is_call .nil pass0 (pa_cons (pv 1) (pa_cons (pv 3) pa_nil))))) pa_nil)))) (pss_one ps_never) pss_nil)
      (pss_cons (ps_fld (pv 0) (pv 1) rfl)
      (pss_one (ps_fld (pv 0) (pe_callTy c_tupOf (by rfl) T.n_tuple (by decide +kernel) (pa_cons (pv 2) pa_nil)) rfl)))))), ?_⟩
    walk_at "rd"
    all_goals try (exfalso; omega)
    rename_i p1 H1 e1 f1 h1
    refine lc_lst (xs := xs) (by walk_at "hk") nb (fun i acc _ => acc = List.replicate i (.bl true) ∧ i ≤ xs.length) ⟨rfl, Nat.zero_le _⟩ (fun _ _ _ _ _ h => h) (fun i acc _ h => ?_) (fun x => rfl) (fun i y acc H' hy e hI kk k1 k2 => ?_) (fun p2 ys H2 e2 f2 h2' hI => ?_)
    · obtain ⟨rfl, hi⟩ := h
      refine ⟨?_, by rw [List.length_replicate]; exact Nat.lt_of_le_of_lt (Nat.le_trans hi hl) (by decide)⟩
      rw [show List.replicate i (V.bl true) = (List.replicate i true).map V.bl by rw [List.map_replicate]]
      exact NB.bls
    · obtain ⟨rfl, hi⟩ := hI
      obtain ⟨p, q, rfl, hp, good⟩ := hg y (List.mem_of_getElem? hy)
      have hi' := (List.getElem?_eq_some_iff.mp hy).1
      walk_at "rd"
      refine u_is_call (((e0.trans e1).trans e).kp _ _ hp NB.tup) good fun H4 e4 => ?_
      exact k1 _ _ e4 ⟨by rw [List.replicate_succ'], hi'⟩
    · obtain ⟨rfl, hi⟩ := hI
      walk_at "rd"
      refine x_allT h2' ?_
      walk_at "rd"
      have hx2 := (e1.trans e2).kp _ _ hxI NB.ins
      have hc2 := (e1.trans e2).kp _ _ hcI nb
      have e3 : Ex H0 H2 := (e0.trans e1).trans e2
      refine x_setF ?_
      walk_at "rd"
      refine x_setK hx2 T.t_Script.cl T.A_Script_width (by decide) ?_
      walk_at "rd"
      refine x_setF ?_
      walk_at "rd"
      rename_i t H5 e5 f5 h5
      have e6 : Ex H0 (upd H2 x (.ins a.c_Script dx (putF "width" (.int fl) []))) := Ex.mut e3 hx
      refine x_setK (e5.kp _ _ upd_same NB.ins) T.t_Script.cl T.A_Script_held (Nat.lt_of_le_of_lt (length_putF _ _ _) (by show 0 + 1 < 1000; decide)) ?_
      refine k t _ (Ex.mut (e6.trans e5) hx) upd_same ?_
      rw [upd_ne]
      · exact h5
      · intro e
        rw [e, upd_same] at f5
        cases f5
end
end My

set_option Elab.async false
set_option linter.all false
set_option maxRecDepth 100000
set_option maxHeartbeats 8000000
namespace My
open PySem PySem.Spec PyProof.Rows L2 Sx
local macro_rules | `(tactic| walk_at "nb") => `(tactic| first | exact NB.tup | exact NB.ints | exact NB.len (of_decide_eq_true rfl) | exact NB.at0b rfl | exact NB.at3b rfl | exact NB.ins | exact NB.own | exact NB.frz | exact NB.refs (by assumption) | assumption)
local macro_rules | `(tactic| walk_at "ne") => `(tactic| first | assumption | exact Ne.symm (by assumption) | exact ne_of_none (by assumption) (by assumption) | exact Ne.symm (ne_of_none (by assumption) (by assumption)))
local macro_rules | `(tactic| walk_at "hk") => `(tactic| first
  | assumption
  | exact upd_same
  | (refine' (upd_ne ?hkne).trans ?hkq; (case hkne => walk_at "ne"); (case hkq => walk_at "hk"))
  | (refine' Ex.kp (by assumption) _ _ ?hkq ?hkn; (case hkq => walk_at "hk"); (case hkn => walk_at "nb")))
local macro_rules | `(tactic| walk_at "rd1") => `(tactic| first
  | ((with_reducible refine' x_var ?hx ?_); (case hx => exact rfl))
  | with_reducible refine x_c ?_
  | with_reducible refine x_op ?_
  | with_reducible refine x_un ?_
  | with_reducible refine x_I0 ?_
  | with_reducible refine x_U ?_
  | ((with_reducible refine x_I ?hc ?_); (case hc => first | exact (by decide : (0 : Int) < _) | (show (0 : Int) < _; omega) | (show CMul _ _; first | exact .inl ⟨by omega, by omega⟩ | exact .inr ⟨by omega, by omega⟩) | (show CDiv _ _; exact ⟨by omega, by omega⟩) | (show CDivW _ _; exact wide_div (b := 200) (by omega) (by assumption) (by decide) (by decide)) | (show CDivW _ _; exact wide_div (b := 31) (by omega) (by omega) (by decide) (by decide))))
  | with_reducible refine x_EqI ?_
  | with_reducible refine x_NeI ?_
  | ((with_reducible refine x_EqSt ?h ?_); (case h => decide +kernel))
  | ((with_reducible refine x_EqSf ?h ?_); (case h => decide +kernel))
  | ((with_reducible refine x_NeSt ?h ?_); (case h => decide +kernel))
  | ((with_reducible refine x_NeSf ?h ?_); (case h => decide +kernel))
  | with_reducible refine x_EqS ?_
  | with_reducible refine x_NeS ?_
  | ((with_reducible refine' x_ixL ?hq ?hi ?_); (case hq => walk_at "hk"); (case hi => first | exact rfl | assumption))
  | ((with_reducible refine' x_ixT ?hq ?hi ?_); (case hq => walk_at "hk"); (case hi => first | exact rfl | assumption))
  | with_reducible refine x_chain ?_
  | with_reducible refine x_tup ?_
  | with_reducible refine x_lst ?_
  | ((with_reducible refine x_lenNew ?hl ?_); (case hl => exact Nat.le_of_ble_eq_true rfl); intro _ _ _ _ _)
  | ((with_reducible refine x_new ?_); intro _ _ _ _ _)
  | with_reducible refine x_sl ?_
  | with_reducible refine x_noPart ?_
  | with_reducible refine x_part ?_
  | with_reducible refine x_ex_int ?_
  | with_reducible refine x_ex_bl ?_
  | with_reducible refine x_ex_2 ?_
  | with_reducible refine x_test ?_
  | with_reducible refine x_B ?_
  | with_reducible refine x_and ?_
  | with_reducible refine x_or ?_
  | with_reducible refine x_not ?_
  | with_reducible refine x_andV ?_
  | with_reducible refine x_orV ?_
  | with_reducible refine x_notV ?_
  | with_reducible refine x_ifE ?_
  | with_reducible refine x_iteT ?_
  | with_reducible refine x_iteF ?_
  | ((with_reducible refine x_iteD ?_ ?_) <;> intro _)
  | ((with_reducible refine x_iteN ?_ ?_) <;> intro _)
  | with_reducible refine x_if ?_
  | with_reducible refine x_seq ?_
  | with_reducible refine x_next ?_
  | with_reducible refine x_asg ?_
  | with_reducible refine x_gName ?_
  | ((with_reducible refine' x_gTup ?hq ?hn ?_); (case hq => walk_at "hk"); (case hn => exact rfl))
  | with_reducible refine x_gCons ?_
  | with_reducible refine x_gNil ?_
  | ((with_reducible refine' x_gConsE ?h ?_); (case h => exact rfl))
  | ((with_reducible refine x_gNilE ?h ?_); (case h => exact rfl))
  | with_reducible refine x_ret ?_
  | with_reducible refine x_drop ?_
  | with_reducible refine x_par ?_
  | ((with_reducible refine' x_aug ?hx ?_); (case hx => exact rfl))
  | with_reducible refine x_ipI ?_
  | with_reducible refine x_augS ?_
  | with_reducible refine x_gSub ?_
  | ((with_reducible refine' x_setL ?hq ?hi ?_); (case hq => walk_at "hk"); (case hi => first | exact rfl | assumption))
  | with_reducible refine x_cons ?_
  | with_reducible refine x_nil ?_
  | with_reducible refine x_CB ?_
  | with_reducible refine x_abs ?_
  | with_reducible refine x_intI ?_
  | with_reducible refine x_intB ?_
  | ((with_reducible refine' x_lenL ?hq ?_); (case hq => walk_at "hk"))
  | ((with_reducible refine' x_lenT ?hq ?_); (case hq => walk_at "hk"))
  | ((with_reducible refine x_iteTe ?h ?_); (case h => exact rfl))
  | ((with_reducible refine x_iteFe ?h ?_); (case h => exact rfl))
  | walk_at "use"
  | with_reducible refine x_callS ?_
  | ((with_reducible refine x_lc ?_))
  | ((with_reducible refine x_for ?_))
  | ((with_reducible refine x_iR1 ?_))
  | ((with_reducible refine x_iL ?_))
  | ((with_reducible refine x_iZ ?_))
  | ((with_reducible refine x_yes ?_))
  | ((with_reducible refine' x_NIDt ?hq ?_); (case hq => assumption))
  | ((with_reducible refine' x_NIDf ?hq ?_); (case hq => assumption))
  | ((with_reducible refine' x_IIDf ?hq ?_); (case hq => assumption))
  | ((with_reducible refine' x_IIDt ?hq ?_); (case hq => assumption))
  | ((with_reducible refine' x_ixDs ?hd ?hq ?_); (case hd => assumption); (case hq => assumption))
  | ((with_reducible refine x_InSt ?h ?_); (case h => decide +kernel))
  | ((with_reducible refine x_InSf ?h ?_); (case h => decide +kernel))
  | ((with_reducible refine' x_notInI ?hq ?_); (case hq => walk_at "hk"))
  | ((with_reducible refine' x_inTt ?hq ?hv ?ha ?he ?_); (case hq => walk_at "hk"); (case hv => exact rfl); (case ha => exact rfl); (case he => decide +kernel))
  | ((with_reducible refine' x_inTf ?hq ?hv ?ha ?he ?_); (case hq => walk_at "hk"); (case hv => exact rfl); (case ha => exact rfl); (case he => decide +kernel))
  | ((with_reducible refine' x_slT ?hq ?hw ?_); (case hq => walk_at "hk"); (case hw => with_unfolding_all exact of_decide_eq_true rfl))
  | ((with_reducible refine' x_slL ?hq ?_); (case hq => walk_at "hk"))
  | ((with_reducible refine' x_catT ?hq ?hr ?n1 ?n2 ?hl ?_); (case hq => walk_at "hk"); (case hr => walk_at "hk"); (case n1 => exact List.cons_ne_nil _ _); (case n2 => exact List.cons_ne_nil _ _); (case hl => exact Nat.le_of_ble_eq_true rfl))
  | ((with_reducible refine x_bm ?_))
  | ((with_reducible refine x_lstRg ?_))
  | ((with_reducible refine x_rg1 ?_))
  | ((with_reducible refine And.intro ?h ?_); (case h => exact tyL (by assumption)))
  | dsimp only)
local macro_rules | `(tactic| walk_at "use") => `(tactic| fail)
local macro_rules | `(tactic| walk_at "rd") => `(tactic| repeat' (walk_at "rd1"))
local macro_rules | `(tactic| walk_at "ex") => `(tactic| first | exact Ex.refl _ | assumption | (refine' Ex.trans ?he (by assumption); (case he => walk_at "ex")))
local macro_rules | `(tactic| walk_at "rd1") => `(tactic| first
  | ((with_reducible refine x_iteDf ?h ?_); (case h => exact rfl))
  | ((with_reducible refine x_iteDt ?h ?_); (case h => exact rfl))
  | ((with_reducible refine x_iteNf ?h ?_); (case h => exact rfl))
  | ((with_reducible refine x_iteNt ?h ?_); (case h => exact rfl))
  | ((with_reducible refine x_isiI (r := true) ?h ?_); (case h => decide +kernel))
  | ((with_reducible refine x_isiI (r := false) ?h ?_); (case h => decide +kernel))
  | ((with_reducible refine x_isiS (r := true) ?h ?_); (case h => decide +kernel))
  | ((with_reducible refine x_isiS (r := false) ?h ?_); (case h => decide +kernel))
  | ((with_reducible refine x_isiB (r := true) ?h ?_); (case h => decide +kernel))
  | ((with_reducible refine x_isiB (r := false) ?h ?_); (case h => decide +kernel))
  | ((with_reducible refine' x_isiT (r := true) ?hp ?h ?_); (case hp => walk_at "hk"); (case h => decide +kernel))
  | ((with_reducible refine' x_isiT (r := false) ?hp ?h ?_); (case hp => walk_at "hk"); (case h => decide +kernel))
  | ((with_reducible refine' x_isiL (r := true) ?hp ?h ?_); (case hp => walk_at "hk"); (case h => decide +kernel))
  | ((with_reducible refine' x_isiL (r := false) ?hp ?h ?_); (case hp => walk_at "hk"); (case h => decide +kernel))
  | ((with_reducible refine' x_isi2L ?hp ?hl ?_); (case hp => walk_at "hk"); (case hl => walk_at "hk"))
  | ((with_reducible refine' x_isi2T ?hp ?hl ?_); (case hp => walk_at "hk"); (case hl => walk_at "hk"))
  | ((with_reducible refine' x_tupOfL ?hq ?_); (case hq => walk_at "hk"))
  | ((with_reducible refine' x_tupOfT ?hq ?_); (case hq => walk_at "hk"))
  | ((with_reducible refine x_lenS ?h ?_); (case h => exact Nat.le_of_ble_eq_true rfl))
  | ((with_reducible refine' x_all ?hq ?_); (case hq => walk_at "hk"))
  | with_reducible refine x_lenSet ?_)

local macro_rules | `(tactic| walk_at "nb") => `(tactic| first | exact NB.dK | exact NB.rng)
local macro_rules | `(tactic| walk_at "rd1") => `(tactic| first
  | ((with_reducible refine' x_ixT ?hq ?hi ?_); (case hq => walk_at "hk"); (case hi => exact at_nat (by decide) rfl))
  | ((with_reducible refine' x_notInTt ?hq ?hv ?ha ?he ?_); (case hq => walk_at "hk"); (case hv => exact rfl); (case ha => exact rfl); (case he => decide +kernel))
  | ((with_reducible refine' x_notInTf ?hq ?hv ?ha ?he ?_); (case hq => walk_at "hk"); (case hv => exact rfl); (case ha => exact rfl); (case he => decide +kernel))
  | ((with_reducible refine x_range1 ?_); intro _ _ _ _ _)
  | ((with_reducible refine' x_notRng ?hq ?_); (case hq => walk_at "hk"))
  | ((with_reducible refine' x_slA ?hq ?_); (case hq => walk_at "hk"); intro _ _ _ _)
  | with_reducible refine x_iT ?_)
/-- an item of a call, bent or not -/
structure Itm (b e : Nat) (K : PySem.W.Frag) (H : Hp) (x : V) : Prop where
  th : Thing K H x
  da : ∃ d, DN H d x ∧ Sml b e d
  wd : Wd x
section
variable {P : Program} {w : World} {K : PySem.W.Frag} {mg : Str → Option Value} {base : Heap} {a : Ad} {H H1 : Hp} {Q : VK} {E : XK} {p : Addr} {v : V} {files : Int} {b e b' e' : Nat}
theorem Itm.mono {x : V} (i : Itm b e K H x) (f : Ex H H1) : Itm b e K H1 x := ⟨i.th.mono f, let ⟨d, h1, h2⟩ := i.da; ⟨d, DN.mono f d x h1, h2⟩, i.wd⟩
theorem Itm.up {x : V} (i : Itm b e K H x) (h1 : b ≤ b') (h2 : e ≤ e') : Itm b' e' K H x := ⟨i.th, let ⟨d, k1, k2⟩ := i.da; ⟨d, k1, k2.up h1 h2⟩, i.wd⟩
theorem Itm.all {xs : List V} (h : ∀ x ∈ xs, Itm b e K H x) : ∃ ds, DNs H ds xs ∧ (∀ d ∈ ds, Sml b e d) ∧ ds.length = xs.length := by
  induction xs with
  | nil => exact ⟨[], by rw [DNs], fun _ h => (nomatch h), rfl⟩
  | cons x xs ih =>
    obtain ⟨ds, h1, h2, h3⟩ := ih fun y hy => h y (by simp [hy])
    obtain ⟨d, k1, k2⟩ := (h x (by simp)).da
    refine ⟨d :: ds, by rw [DNs]; exact ⟨x, xs, rfl, k1, h1⟩, fun y hy => ?_, by rw [List.length_cons, List.length_cons, h3]⟩
    rcases List.mem_cons.mp hy with q | hy
    · rw [q]; exact k2
    · exact h2 y hy
theorem shaped_of {n : Nat} {d : PyData} (h : Sml n e d) (he : e ≤ 40) : SeqAt.shaped d = true := by
  unfold SeqAt.shaped
  rw [h.lay, Bool.true_and]
  exact decide_eq_true (Nat.le_trans h.deep (by omega))
/-! whole, files -/
def sp_Lis_whole (K : PySem.W.Frag) : Sp := fun vs H Q _ => ∃ v : V, vs = [v] ∧ Thing K H v ∧ Q (.bl (isI v)) H
theorem u_Lis_whole (t : Thing K H v) (k : Q (.bl (isI v)) H) : sp_Lis_whole K [v] H Q E := ⟨v, rfl, t, k⟩
theorem ok_Lis_whole (T : Txt K w mg a) : FnOk P w K mg base CX0 1 a.a_Lis_whole a.fd_Lis_whole ["_law_thing"] (sp_Lis_whole K) := by
  refine T.F_Lis_whole.ok sc_Lis_whole (fun vs H Q E h => ?_) (fun cdv A outer s H vs Q E hr h => ?_)
  · obtain ⟨i, rfl, _⟩ := h; rfl
  · obtain ⟨v, rfl, t, k⟩ := h
    obtain ⟨bT, bL, bD, kd⟩ := t.kinds
    refine ⟨_, (pss_one (ps_ret (pe_and (pe_callB call_isi (by rfl) T.n_isinstance (by decide +kernel) (pa_cons (pv 0) (pa_cons (pe_bltn (v := .ty "int") (u := .type "int") (by rfl) T.n_int (by decide +kernel) rfl) pa_nil))) (pe_one (pe_not (pe_callB call_isi (by rfl) T.n_isinstance (by decide +kernel) (pa_cons (pv 0) (pa_cons (pe_bltn (v := .ty "bool") (u := .type "bool") (by rfl) T.n_bool (by decide +kernel) rfl) pa_nil)))))))), ?_⟩
    walk_at "rd"
    refine x_isiInt kd ?_
    refine x_ex_bl (x_iteB (fun h => ?_) (fun h => ?_))
    · walk_at "rd"
      refine x_isiBool kd (x_ex_bl ?_)
      rw [isI_of h]
      exact k
    · rw [isI_no h] at k
      exact k
def sp_Lare_files (K : PySem.W.Frag) : Sp := fun vs H Q _ => ∃ (files : Int) (p : Addr) (xs : List V) (b e : Nat), vs = [.int files, .ref p] ∧ H p = some (.tup xs) ∧ xs.length ≤ 3 ∧ (∀ x ∈ xs, Itm b e K H x) ∧ e < 40 ∧ ∀ H1, Ex H H1 → Q (.bl (xs.all (fB files))) H1
theorem u_Lare_files {xs : List V} (h : H p = some (.tup xs)) (hl : xs.length ≤ 3) (hi : ∀ x ∈ xs, Itm b e K H x) (he : e < 40) (k : ∀ H1, Ex H H1 → Q (.bl (xs.all (fB files))) H1) : sp_Lare_files K [.int files, .ref p] H Q E := ⟨files, p, xs, b, e, rfl, h, hl, hi, he, k⟩
theorem ok_Lare_files (T : Txt K w mg a) : FnOk P w K mg base CX0 2 a.a_Lare_files a.fd_Lare_files ["_law_files", "_law_some"] (sp_Lare_files K) := by
  refine T.F_Lare_files.ok sc_Lare_files (fun vs H Q E h => ?_) (fun cdv A outer s H vs Q E hr h => ?_)
  · obtain ⟨f, p, xs, b, e, rfl, _⟩ := h; rfl
  · obtain ⟨files, p, xs, b, e, rfl, hp, hl, hi, he, k⟩ := h
    have G_Lis_whole := ok_Lis_whole (P := P) (base := base) T
    refine ⟨_, (pss_one (ps_ret (pe_cmpR (op_eqD hr.units) (pe_lc (own := [("_law_file", 2)]) rfl sc_Lare_files.nd (pi_tup (pv 1)) (blkOk_by (own := [("_law_file", 2)]) (N := ["_law_files", "_law_some", "_law_file"]) (sc := defScope s_Lare_files) (by decide +kernel)) (fun _ _ _ _ _ => (pg_name (i := 2) sc_Lare_files.nd rfl (Or.inl rfl) (Or.inr rfl))) (fun _ _ _ _ _ => (pts_one (PW.pt (pw_or (pt_not (pt_val (pe_call G_Lis_whole (hr.mono (by decide)) (by rfl) T.m_Lis_whole T.k_Lis_whole T.b_Lis_whole .nil pass0 (pa_cons (pv 2) pa_nil)))) (pw_or1 (pt_cmpR Rv.op_notInRng (pv 2) (pe_callTy Rv.c_range1 (by rfl) T.n_range (by decide +kernel) (pa_cons (pv 0) pa_nil)) (by rfl))))))) (fun _ _ _ _ _ => (pv 2))) (pe_lst pa_nil) (nomark _)))), ?_⟩
    walk_at "rd"
    refine lc_tup hp (fun i acc _ => acc = (xs.take i).filter (fun x => !fB files x)) (by simp) (fun _ _ _ _ _ h => h) (fun i acc _ h => ?_) (fun x => rfl) (fun i x acc H' hx f hI kk k1 k2 => ?_) (fun p2 ys H2 f2 g2 h2 hI => ?_)
    · subst h
      have l1 : ((xs.take i).filter (fun x => !fB files x)).length ≤ 3 := Nat.le_trans (List.length_filter_le _ _) (Nat.le_trans (List.length_take_le' _ _) hl)
      exact ⟨NB.len (by omega), Nat.lt_of_le_of_lt l1 (by decide)⟩
    · have st : (xs.take (i + 1)).filter (fun x => !fB files x) = acc ++ (if (!fB files x) = true then [x] else []) := by
        rw [List.take_add_one, hx, List.filter_append, hI, show (some x).toList = [x] from rfl, List.filter_cons, List.filter_nil]
      have tx := (hi x (List.mem_of_getElem? hx)).th.mono f
      walk_at "rd"
      refine u_Lis_whole tx ?_
      cases hv : isI x with
      | true =>
        obtain ⟨n, rfl⟩ := isI_ex hv
        walk_at "rd"
        · rename_i p3 H3 e3 f3 h3 hb
          refine k1 _ _ e3 ?_
          rw [st, if_pos (by show (!decide (0 ≤ n ∧ n < files)) = true; rw [decide_eq_false hb]; rfl)]
        · rename_i p3 H3 e3 f3 h3 hb
          refine k2 _ e3 ?_
          rw [st, if_neg (by show ¬ (!decide (0 ≤ n ∧ n < files)) = true; rw [decide_eq_true hb]; decide), List.append_nil]
      | false =>
        walk_at "rd"
        refine k1 _ _ (Ex.refl _) ?_
        rw [st, if_pos (by rw [show fB files x = false from ofI_no hv]; rfl)]
    · rw [List.take_of_length_le (Nat.le_refl _)] at hI
      obtain ⟨ds, d1, d2, d3⟩ := Itm.all (xs := ys) (b := b) (e := e) (K := K) (H := H2) fun x hx => (hi x (by rw [hI] at hx; exact (List.mem_filter.mp hx).1)).mono f2
      walk_at "rd"
      rename_i p3 H3 e3 f3 h3
      have l1 : ys.length ≤ 3 := by rw [hI]; exact Nat.le_trans (List.length_filter_le _ _) hl
      refine x_EqD (d := .list ds) (e := .list []) (.lst (SqL.of (e3.kp _ _ h2 (NB.len (by omega)))) (DNs.dp _ _ (DNs.mono e3 _ _ d1))) (.lst (SqL.of h3) .nil) (shaped_of (Sml.lst d2 (Nat.le_refl _)) (by omega)) (by decide) ?_
      rw [eqv_nilL, show ds.isEmpty = xs.all (fB files) from ?_]
      · exact k _ (f2.trans e3)
      · have : ds.isEmpty = ys.isEmpty := by
          rw [Bool.eq_iff_iff, List.isEmpty_iff, List.isEmpty_iff, ← List.length_eq_zero_iff, ← List.length_eq_zero_iff, d3]
        rw [this, hI, Bool.eq_iff_iff, List.isEmpty_iff, List.filter_eq_nil_iff, List.all_eq_true]
        simp
local macro_rules | `(tactic| walk_at "use") => `(tactic| ((with_reducible refine' u_Lis_whole ?ht ?_); (case ht => first | assumption | exact Thing.mono (by assumption) (by walk_at "ex"))))
/-! what is due -/
def sp_Ldue (K : PySem.W.Frag) : Sp := fun vs H Q _ => ∃ (files : Int) (v : V) (b e : Nat), vs = [.int files, v] ∧ Thing K H v ∧ (∀ p xs, v = .ref p → H p = some (.tup xs) → ∀ x ∈ xs, Itm b e K H x) ∧ e < 39 ∧ ∀ H1, Ex H H1 → Q (.bl (callV H files v)) H1
theorem u_Ldue (t : Thing K H v) (it : ∀ p xs, v = .ref p → H p = some (.tup xs) → ∀ x ∈ xs, Itm b e K H x) (he : e < 39) (k : ∀ H1, Ex H H1 → Q (.bl (callV H files v)) H1) : sp_Ldue K [.int files, v] H Q E := ⟨files, v, b, e, rfl, t, it, he, k⟩
theorem ok_Ldue (T : Txt K w mg a) : FnOk P w K mg base CX0 3 a.a_Ldue a.fd_Ldue ["_law_files", "_law_thing"] (sp_Ldue K) := by
  refine T.F_Ldue.ok sc_Ldue (fun vs H Q E h => ?_) (fun cdv A outer s H vs Q E hr h => ?_)
  · obtain ⟨f, v, b, e, rfl, _⟩ := h; rfl
  · obtain ⟨files, v, b, e, rfl, th, it, he, k⟩ := h
    have G_Lis_whole := ok_Lis_whole (P := P) (base := base) T
    have G_Lare_files := ok_Lare_files (P := P) (base := base) T
    refine ⟨_, (pss_cons (ps_if (PW.pt (pw_or (pt_not (pt_val (pe_callB call_isi (by rfl) T.n_isinstance (by decide +kernel) (pa_cons (pv 1) (pa_cons (pe_bltn (v := .ty "tuple") (u := .type "tuple") (by rfl) T.n_tuple (by decide +kernel) rfl) pa_nil))))) (pw_or (pt_cmpR (op_eqD hr.units) (pv 1) (pe_tup pa_nil) (nomark _)) (pw_or1 (pt_not (pt_val (pe_callB call_isi (by rfl) T.n_isinstance (by decide +kernel) (pa_cons (pe_ix ix_tup (pv 1) pe_int (fun _ _ => rfl)) (pa_cons (pe_bltn (v := .ty "str") (u := .type "str") (by rfl) T.n_str (by decide +kernel) rfl) pa_nil))))))))) (pss_one (ps_ret pe_bl)) pss_nil)
      (pss_cons (ps_if (pt_cmpR op_in_seq (pe_ix ix_tup (pv 1) pe_int (fun _ _ => rfl)) (pe_tup (pa_cons pe_str (pa_cons pe_str (pa_cons pe_str (pa_cons pe_str (pa_cons pe_str pa_nil)))))) (by rfl)) (pss_one (ps_ret (pe_cmpR op_eq (pe_callB c_len (by rfl) T.n_len PySem.boot_len (pa_cons (pv 1) pa_nil)) pe_int (nomark _)))) pss_nil)
      (pss_cons (ps_if (pt_cmpR op_eq (pe_ix ix_tup (pv 1) pe_int (fun _ _ => rfl)) pe_str (nomark _)) (pss_one (ps_ret (pe_and (pe_cmpR op_eq (pe_callB c_len (by rfl) T.n_len PySem.boot_len (pa_cons (pv 1) pa_nil)) pe_int (nomark _)) (pe_and (pe_call G_Lis_whole (hr.mono (by decide)) (by rfl) T.m_Lis_whole T.k_Lis_whole T.b_Lis_whole .nil pass0 (pa_cons (pe_ix ix_tup (pv 1) pe_int (fun _ _ => rfl)) pa_nil)) (pe_one (pe_cmpR op_ne (pe_ix ix_tup (pv 1) pe_int (fun _ _ => rfl)) pe_int (nomark _))))))) pss_nil)
      (pss_cons (ps_if (pt_cmpR op_eq (pe_ix ix_tup (pv 1) pe_int (fun _ _ => rfl)) pe_str (nomark _)) (pss_one (ps_ret (pe_and (pe_cmpR op_eq (pe_callB c_len (by rfl) T.n_len PySem.boot_len (pa_cons (pv 1) pa_nil)) pe_int (nomark _)) (pe_and (pe_call G_Lare_files (hr.mono (by decide)) (by rfl) T.m_Lare_files T.k_Lare_files T.b_Lare_files .nil pass0 (pa_cons (pv 0) (pa_cons (pe_slice sl_tupA (pv 1) (po_some pe_int) (po_some pe_int)) pa_nil))) (pe_and (pe_call G_Lis_whole (hr.mono (by decide)) (by rfl) T.m_Lis_whole T.k_Lis_whole T.b_Lis_whole .nil pass0 (pa_cons (pe_ix ix_tup (pv 1) pe_int (fun _ _ => rfl)) pa_nil)) (pe_one (pe_cmpR op_ne (pe_ix ix_tup (pv 1) pe_int (fun _ _ => rfl)) pe_int (nomark _)))))))) pss_nil)
      (pss_cons (ps_if (PW.pt (pw_or (pt_cmpR op_notIn_seq (pe_ix ix_tup (pv 1) pe_int (fun _ _ => rfl)) (pe_tup (pa_cons pe_str (pa_cons pe_str (pa_cons pe_str pa_nil)))) (by rfl)) (pw_or1 (pt_cmpR op_ne (pe_callB c_len (by rfl) T.n_len PySem.boot_len (pa_cons (pv 1) pa_nil)) (pe_op op_add pe_int (pe_callTy c_int (by rfl) T.n_int (by decide +kernel) (pa_cons (pe_cmpR op_eq (pe_ix ix_tup (pv 1) pe_int (fun _ _ => rfl)) pe_str (nomark _)) pa_nil))) (nomark _))))) (pss_one (ps_ret pe_bl)) pss_nil)
      (pss_cons (ps_if (PW.pt (pw_or (pt_not (pt_val (pe_call G_Lare_files (hr.mono (by decide)) (by rfl) T.m_Lare_files T.k_Lare_files T.b_Lare_files .nil pass0 (pa_cons (pv 0) (pa_cons (pe_slice sl_tupA (pv 1) (po_some pe_int) (po_some pe_int)) pa_nil))))) (pw_or1 (pt_cmpR op_eq (pe_ix ix_tup (pv 1) pe_int (fun _ _ => rfl)) (pe_ix ix_tup (pv 1) pe_int (fun _ _ => rfl)) (nomark _))))) (pss_one (ps_ret pe_bl)) pss_nil)
      (pss_one (ps_ret (pe_or (pe_cmpR op_ne (pe_ix ix_tup (pv 1) pe_int (fun _ _ => rfl)) pe_str (nomark _)) (pe_one (pe_and (pe_call G_Lis_whole (hr.mono (by decide)) (by rfl) T.m_Lis_whole T.k_Lis_whole T.b_Lis_whole .nil pass0 (pa_cons (pe_ix ix_tup (pv 1) pe_int (fun _ _ => rfl)) pa_nil)) (pe_one (pe_cmpR op_ne (pe_ix ix_tup (pv 1) pe_int (fun _ _ => rfl)) pe_int (nomark _)))))))))))))), ?_⟩
    rcases th.tupOr with ⟨p, xs, rfl, hp⟩ | ⟨⟨bI, bB, bL, bS, bD, kd⟩, no⟩
    rotate_left
    · rw [callV_no no] at k
      walk_at "rd"
      refine x_isiTup kd ?_
      walk_at "rd"
      exact k _ (Ex.refl _)
    replace it := it p xs rfl hp
    obtain ⟨ds, d1, d2, d3⟩ := Itm.all it
    rw [callV_tup hp] at k
    walk_at "rd"
    rename_i p1 H1 e1 f1 h1
    have hp1 := e1.kp _ _ hp NB.tup
    refine x_EqD (d := .tuple ds) (e := .tuple []) (.tup (SqT.of hp1) (DNs.dp _ _ (DNs.mono e1 _ _ d1))) (.tup (SqT.of h1) .nil) (shaped_of (Sml.tup d2 (Nat.le_refl _)) (by omega)) (by decide) ?_
    rw [eqv_nilT]
    replace it : ∀ x ∈ xs, Itm b e K H1 x := fun x hx => (it x hx).mono e1
    match xs, ds, d3 with
    | [], [], _ =>
      walk_at "rd"
      exact k _ e1
    | x0 :: r, d0 :: ds', _ =>
      clear d1 d2 d3 f1 h1 hp
      cases hs : isStr x0 with
      | false =>
        rw [callB_nostr hs] at k
        obtain ⟨bT, bL, bD, kd⟩ := (it x0 (by simp)).th.kinds
        walk_at "rd"
        refine x_isiStr kd (x_ex_bl ?_)
        rw [hs]
        walk_at "rd"
        exact k _ e1
      | true =>
        obtain ⟨z, rfl⟩ := isStr_ex hs
        have hz := (it _ (by simp)).wd z rfl
        replace it : ∀ x ∈ r, Itm b e K H1 x := fun x hx => it x (by simp [hx])
        replace k : ∀ H1, Ex H H1 → Q (.bl (callN files (wordNo z) r)) H1 := k
        simp only [tens, odds, List.cons_append, List.nil_append, List.mem_cons, List.not_mem_nil, or_false] at hz
        walk_at "rd"
        rcases hz with rfl | rfl | rfl | rfl | rfl | rfl | rfl | rfl | rfl | rfl | rfl | rfl | rfl | rfl | rfl | rfl | rfl | rfl
        · rw [show wordNo "all" = 0 by decide +kernel] at k
          walk_at "rd"
          · rename_i h
            replace h : (((V.str "all" :: r).length : Nat) : Int) = 2 := h
            have hl : r.length = 1 := by
              simp only [List.length_cons] at h
              omega
            have ex : ∃ x0, r = [x0] := by
              match r, hl with
              | [y0], _ => exact ⟨y0, rfl⟩
            clear h hl
            obtain ⟨x0, rfl⟩ := ex
            have tk : Thing K H1 x0 := ((it x0 (by simp)).th).mono (by walk_at "ex")
            cases hv : isI x0 with
            | true =>
              obtain ⟨ik, rfl⟩ := isI_ex hv
              walk_at "rd"
              rw [show callN files 0 [.int ik] = !decide (ik = 0) from rfl] at k
              exact k _ (by walk_at "ex")
            | false =>
              rw [show callN files 0 [x0] = false from ?_] at k
              · walk_at "rd"
                rw [hv]
                walk_at "rd"
                exact k _ (by walk_at "ex")
              · simp only [callN]
                rw [show kB x0 = false from ofI_no hv]
                try simp
          · rename_i h
            rw [show callN files 0 r = false from by
              match r, h with
              | [], _ => rfl
              | [_], h => exact absurd rfl h
              | [_, _], _ => rfl
              | [_, _, _], _ => rfl
              | _ :: _ :: _ :: _ :: _, _ => rfl] at k
            exact k _ (by walk_at "ex")
        · rw [show wordNo "up" = 1 by decide +kernel] at k
          walk_at "rd"
          · rename_i h p2 H2 e2 h2
            replace h : (((V.str "up" :: r).length : Nat) : Int) = 3 := h
            have hl : r.length = 2 := by
              simp only [List.length_cons] at h
              omega
            have ex : ∃ x0, ∃ x1, r = [x0, x1] := by
              match r, hl with
              | [y0, y1], _ => exact ⟨y0, y1, rfl⟩
            clear h hl
            obtain ⟨x0, x1, rfl⟩ := ex
            refine u_Lare_files (xs := [x0]) h2 (by show 1 ≤ 3; decide) (fun x hx => (it x (by simp at hx ⊢; exact .inl hx)).mono (by walk_at "ex")) (by omega) fun H3 e3 => ?_
            rw [show [x0].all (fB files) = fB files x0 by simp]
            refine x_ex_bl ?_
            cases hb : fB files x0 with
            | false =>
              rw [show callN files 1 [x0, x1] = false from by simp only [callN, hb, Bool.false_and]] at k
              walk_at "rd"
              exact k _ (by walk_at "ex")
            | true =>
              have tk : Thing K H3 x1 := ((it x1 (by simp)).th).mono (by walk_at "ex")
              cases hv : isI x1 with
              | true =>
                obtain ⟨ik, rfl⟩ := isI_ex hv
                walk_at "rd"
                rw [show callN files 1 [x0, .int ik] = !decide (ik = 0) from by simp only [callN, hb, Bool.true_and]; rfl] at k
                exact k _ (by walk_at "ex")
              | false =>
                rw [show callN files 1 [x0, x1] = false from ?_] at k
                · walk_at "rd"
                  rw [hv]
                  walk_at "rd"
                  exact k _ (by walk_at "ex")
                · simp only [callN]
                  rw [show kB x1 = false from ofI_no hv]
                  try simp
          · rename_i h
            rw [show callN files 1 r = false from by
              match r, h with
              | [], _ => rfl
              | [_], _ => rfl
              | [_, _], h => exact absurd rfl h
              | [_, _, _], _ => rfl
              | _ :: _ :: _ :: _ :: _, _ => rfl] at k
            exact k _ (by walk_at "ex")
        · rw [show wordNo "swap" = 2 by decide +kernel] at k
          walk_at "rd"
          · rename_i h
            rw [show callN files 2 r = false from by
              match r, h with
              | [], _ => rfl
              | [_], _ => rfl
              | [_, _], h => exact absurd rfl h
              | [_, _, _], _ => rfl
              | _ :: _ :: _ :: _ :: _, _ => rfl] at k
            exact k _ (by walk_at "ex")
          · rename_i h p2 H2 e2 h2
            replace h : (((V.str "swap" :: r).length : Nat) : Int) = 3 := h
            have hl : r.length = 2 := by
              simp only [List.length_cons] at h
              omega
            have ex : ∃ x0, ∃ x1, r = [x0, x1] := by
              match r, hl with
              | [y0, y1], _ => exact ⟨y0, y1, rfl⟩
            clear h hl
            obtain ⟨x0, x1, rfl⟩ := ex
            refine u_Lare_files (xs := [x0, x1]) h2 (by show 2 ≤ 3; decide) (fun x hx => (it x (by simp at hx ⊢; rcases hx with hx | hx <;> simp [hx])).mono (by walk_at "ex")) (by omega) fun H3 e3 => ?_
            rw [show [x0, x1].all (fB files) = (fB files x0 && fB files x1) by simp]
            refine x_ex_bl ?_
            cases hb : fB files x0 && fB files x1 with
            | false =>
              rw [show callN files 2 [x0, x1] = false from by simp only [callN, hb, Bool.false_and]] at k
              walk_at "rd"
              exact k _ (by walk_at "ex")
            | true =>
              have hb2 := hb
              rw [Bool.and_eq_true] at hb2
              obtain ⟨i0, rfl, _⟩ := fB_ex hb2.1
              obtain ⟨i1, rfl, _⟩ := fB_ex hb2.2
              walk_at "rd"
              · rename_i hq
                rw [show callN files 2 [.int i0, .int i1] = false from by simp only [callN, eqB, hb, decide_eq_true hq]; rfl] at k
                exact k _ (by walk_at "ex")
              · rename_i hq
                rw [show callN files 2 [.int i0, .int i1] = true from by simp only [callN, eqB, hb, decide_eq_false hq]; rfl] at k
                exact k _ (by walk_at "ex")
        · rw [show wordNo "wheel" = 3 by decide +kernel] at k
          walk_at "rd"
          · rename_i h
            rw [show callN files 3 r = false from by
              match r, h with
              | [], _ => rfl
              | [_], _ => rfl
              | [_, _], _ => rfl
              | [_, _, _], h => exact absurd rfl h
              | _ :: _ :: _ :: _ :: _, _ => rfl] at k
            exact k _ (by walk_at "ex")
          · rename_i h p2 H2 e2 h2
            replace h : (((V.str "wheel" :: r).length : Nat) : Int) = 4 := h
            have hl : r.length = 3 := by
              simp only [List.length_cons] at h
              omega
            have ex : ∃ x0, ∃ x1, ∃ x2, r = [x0, x1, x2] := by
              match r, hl with
              | [y0, y1, y2], _ => exact ⟨y0, y1, y2, rfl⟩
            clear h hl
            obtain ⟨x0, x1, x2, rfl⟩ := ex
            refine u_Lare_files (xs := [x0, x1]) h2 (by show 2 ≤ 3; decide) (fun x hx => (it x (by simp at hx ⊢; rcases hx with hx | hx <;> simp [hx])).mono (by walk_at "ex")) (by omega) fun H3 e3 => ?_
            rw [show [x0, x1].all (fB files) = (fB files x0 && fB files x1) by simp]
            refine x_ex_bl ?_
            cases hb : fB files x0 && fB files x1 with
            | false =>
              rw [show callN files 3 [x0, x1, x2] = false from by simp only [callN, hb, Bool.false_and]] at k
              walk_at "rd"
              exact k _ (by walk_at "ex")
            | true =>
              have hb2 := hb
              rw [Bool.and_eq_true] at hb2
              obtain ⟨i0, rfl, _⟩ := fB_ex hb2.1
              obtain ⟨i1, rfl, _⟩ := fB_ex hb2.2
              by_cases hq : i0 = i1
              · rw [show callN files 3 [.int i0, .int i1, x2] = false from by simp only [callN, eqB, hb, decide_eq_true hq]; simp] at k
                walk_at "rd"
                · exact k _ (by walk_at "ex")
                · exact absurd hq (by assumption)
              · have tk : Thing K H3 x2 := ((it x2 (by simp)).th).mono (by walk_at "ex")
                cases hv : isI x2 with
                | true =>
                  obtain ⟨ik, rfl⟩ := isI_ex hv
                  rw [show callN files 3 [.int i0, .int i1, .int ik] = !decide (ik = 0) from by simp only [callN, eqB, hb, decide_eq_false hq, Bool.true_and, Bool.not_false, Bool.and_true]; rfl] at k
                  walk_at "rd"
                  · exact absurd (by assumption) hq
                  · exact k _ (by walk_at "ex")
                | false =>
                  rw [show callN files 3 [.int i0, .int i1, x2] = false from by simp only [callN]; rw [show kB x2 = false from ofI_no hv]; simp] at k
                  walk_at "rd"
                  · exact k _ (by walk_at "ex")
                  · rw [hv]
                    walk_at "rd"
                    exact k _ (by walk_at "ex")
        · rw [show wordNo "about" = 4 by decide +kernel] at k
          walk_at "rd"
          rw [show decide (((V.str "about" :: r).length : Int) = 1) = callN files 4 r from ?_]
          · exact k _ (by walk_at "ex")
          · match r with
            | [] => rfl
            | _ :: _ => exact decide_eq_false (by simp only [List.length_cons]; omega)
        · rw [show wordNo "front" = 5 by decide +kernel] at k
          walk_at "rd"
          · rename_i h
            rw [show callN files 5 r = false from by
              match r, h with
              | [], _ => rfl
              | [_], _ => rfl
              | [_, _], h => exact absurd rfl h
              | [_, _, _], _ => rfl
              | _ :: _ :: _ :: _ :: _, _ => rfl] at k
            exact k _ (by walk_at "ex")
          · rename_i h p2 H2 e2 h2
            replace h : (((V.str "front" :: r).length : Nat) : Int) = 3 := h
            have hl : r.length = 2 := by
              simp only [List.length_cons] at h
              omega
            have ex : ∃ x0, ∃ x1, r = [x0, x1] := by
              match r, hl with
              | [y0, y1], _ => exact ⟨y0, y1, rfl⟩
            clear h hl
            obtain ⟨x0, x1, rfl⟩ := ex
            refine u_Lare_files (xs := [x0, x1]) h2 (by show 2 ≤ 3; decide) (fun x hx => (it x (by simp at hx ⊢; rcases hx with hx | hx <;> simp [hx])).mono (by walk_at "ex")) (by omega) fun H3 e3 => ?_
            rw [show [x0, x1].all (fB files) = (fB files x0 && fB files x1) by simp]
            refine x_ex_bl ?_
            cases hb : fB files x0 && fB files x1 with
            | false =>
              rw [show callN files 5 [x0, x1] = false from by simp only [callN, hb, Bool.false_and]] at k
              walk_at "rd"
              exact k _ (by walk_at "ex")
            | true =>
              have hb2 := hb
              rw [Bool.and_eq_true] at hb2
              obtain ⟨i0, rfl, _⟩ := fB_ex hb2.1
              obtain ⟨i1, rfl, _⟩ := fB_ex hb2.2
              walk_at "rd"
              · rename_i hq
                rw [show callN files 5 [.int i0, .int i1] = false from by simp only [callN, eqB, hb, decide_eq_true hq]; rfl] at k
                exact k _ (by walk_at "ex")
              · rename_i hq
                rw [show callN files 5 [.int i0, .int i1] = true from by simp only [callN, eqB, hb, decide_eq_false hq]; rfl] at k
                exact k _ (by walk_at "ex")
        · rw [show wordNo "halve" = 6 by decide +kernel] at k
          walk_at "rd"
          rw [show decide (((V.str "halve" :: r).length : Int) = 1) = callN files 6 r from ?_]
          · exact k _ (by walk_at "ex")
          · match r with
            | [] => rfl
            | _ :: _ => exact decide_eq_false (by simp only [List.length_cons]; omega)
        · rw [show wordNo "pair" = 7 by decide +kernel] at k
          walk_at "rd"
          rw [show decide (((V.str "pair" :: r).length : Int) = 1) = callN files 7 r from ?_]
          · exact k _ (by walk_at "ex")
          · match r with
            | [] => rfl
            | _ :: _ => exact decide_eq_false (by simp only [List.length_cons]; omega)
        · rw [show wordNo "others" = 8 by decide +kernel] at k
          walk_at "rd"
          rw [show decide (((V.str "others" :: r).length : Int) = 1) = callN files 8 r from ?_]
          · exact k _ (by walk_at "ex")
          · match r with
            | [] => rfl
            | _ :: _ => exact decide_eq_false (by simp only [List.length_cons]; omega)
        · rw [show wordNo "fill" = 9 by decide +kernel] at k
          walk_at "rd"
          rw [show decide (((V.str "fill" :: r).length : Int) = 1) = callN files 9 r from ?_]
          · exact k _ (by walk_at "ex")
          · match r with
            | [] => rfl
            | _ :: _ => exact decide_eq_false (by simp only [List.length_cons]; omega)
        · rw [show wordNo "" = 10 by decide +kernel] at k
          walk_at "rd"
          exact k _ (by walk_at "ex")
        · rw [show wordNo "backs" = 10 by decide +kernel] at k
          walk_at "rd"
          exact k _ (by walk_at "ex")
        · rw [show wordNo "ups" = 10 by decide +kernel] at k
          walk_at "rd"
          exact k _ (by walk_at "ex")
        · rw [show wordNo "round" = 10 by decide +kernel] at k
          walk_at "rd"
          exact k _ (by walk_at "ex")
        · rw [show wordNo "Swap" = 10 by decide +kernel] at k
          walk_at "rd"
          exact k _ (by walk_at "ex")
        · rw [show wordNo "halv" = 10 by decide +kernel] at k
          walk_at "rd"
          exact k _ (by walk_at "ex")
        · rw [show wordNo "All" = 10 by decide +kernel] at k
          walk_at "rd"
          exact k _ (by walk_at "ex")
        · rw [show wordNo "turn" = 10 by decide +kernel] at k
          walk_at "rd"
          exact k _ (by walk_at "ex")
end
end My

set_option Elab.async false
set_option linter.all false
set_option maxRecDepth 100000
set_option maxHeartbeats 8000000
namespace My
open PySem PySem.Spec PyProof.Rows L2 Sx
local macro_rules | `(tactic| walk_at "nb") => `(tactic| first | exact NB.tup | exact NB.ints | exact NB.len (of_decide_eq_true rfl) | exact NB.at0b rfl | exact NB.at3b rfl | exact NB.ins | exact NB.own | exact NB.frz | exact NB.refs (by assumption) | assumption)
local macro_rules | `(tactic| walk_at "ne") => `(tactic| first | assumption | exact Ne.symm (by assumption) | exact ne_of_none (by assumption) (by assumption) | exact Ne.symm (ne_of_none (by assumption) (by assumption)))
local macro_rules | `(tactic| walk_at "hk") => `(tactic| first
  | assumption
  | exact upd_same
  | (refine' (upd_ne ?hkne).trans ?hkq; (case hkne => walk_at "ne"); (case hkq => walk_at "hk"))
  | (refine' Ex.kp (by assumption) _ _ ?hkq ?hkn; (case hkq => walk_at "hk"); (case hkn => walk_at "nb")))
local macro_rules | `(tactic| walk_at "rd1") => `(tactic| first
  | ((with_reducible refine' x_var ?hx ?_); (case hx => exact rfl))
  | with_reducible refine x_c ?_
  | with_reducible refine x_op ?_
  | with_reducible refine x_un ?_
  | with_reducible refine x_I0 ?_
  | with_reducible refine x_U ?_
  | ((with_reducible refine x_I ?hc ?_); (case hc => first | exact (by decide : (0 : Int) < _) | (show (0 : Int) < _; omega) | (show CMul _ _; first | exact .inl ⟨by omega, by omega⟩ | exact .inr ⟨by omega, by omega⟩) | (show CDiv _ _; exact ⟨by omega, by omega⟩) | (show CDivW _ _; exact wide_div (b := 200) (by omega) (by assumption) (by decide) (by decide)) | (show CDivW _ _; exact wide_div (b := 31) (by omega) (by omega) (by decide) (by decide))))
  | with_reducible refine x_EqI ?_
  | with_reducible refine x_NeI ?_
  | ((with_reducible refine x_EqSt ?h ?_); (case h => decide +kernel))
  | ((with_reducible refine x_EqSf ?h ?_); (case h => decide +kernel))
  | ((with_reducible refine x_NeSt ?h ?_); (case h => decide +kernel))
  | ((with_reducible refine x_NeSf ?h ?_); (case h => decide +kernel))
  | with_reducible refine x_EqS ?_
  | with_reducible refine x_NeS ?_
  | ((with_reducible refine' x_ixL ?hq ?hi ?_); (case hq => walk_at "hk"); (case hi => first | exact rfl | assumption))
  | ((with_reducible refine' x_ixT ?hq ?hi ?_); (case hq => walk_at "hk"); (case hi => first | exact rfl | assumption))
  | with_reducible refine x_chain ?_
  | with_reducible refine x_tup ?_
  | with_reducible refine x_lst ?_
  | ((with_reducible refine x_lenNew ?hl ?_); (case hl => exact Nat.le_of_ble_eq_true rfl); intro _ _ _ _ _)
  | ((with_reducible refine x_new ?_); intro _ _ _ _ _)
  | with_reducible refine x_sl ?_
  | with_reducible refine x_noPart ?_
  | with_reducible refine x_part ?_
  | with_reducible refine x_ex_int ?_
  | with_reducible refine x_ex_bl ?_
  | with_reducible refine x_ex_2 ?_
  | with_reducible refine x_test ?_
  | with_reducible refine x_B ?_
  | with_reducible refine x_and ?_
  | with_reducible refine x_or ?_
  | with_reducible refine x_not ?_
  | with_reducible refine x_andV ?_
  | with_reducible refine x_orV ?_
  | with_reducible refine x_notV ?_
  | with_reducible refine x_ifE ?_
  | with_reducible refine x_iteT ?_
  | with_reducible refine x_iteF ?_
  | ((with_reducible refine x_iteD ?_ ?_) <;> intro _)
  | ((with_reducible refine x_iteN ?_ ?_) <;> intro _)
  | with_reducible refine x_if ?_
  | with_reducible refine x_seq ?_
  | with_reducible refine x_next ?_
  | with_reducible refine x_asg ?_
  | with_reducible refine x_gName ?_
  | ((with_reducible refine' x_gTup ?hq ?hn ?_); (case hq => walk_at "hk"); (case hn => exact rfl))
  | with_reducible refine x_gCons ?_
  | with_reducible refine x_gNil ?_
  | ((with_reducible refine' x_gConsE ?h ?_); (case h => exact rfl))
  | ((with_reducible refine x_gNilE ?h ?_); (case h => exact rfl))
  | with_reducible refine x_ret ?_
  | with_reducible refine x_drop ?_
  | with_reducible refine x_par ?_
  | ((with_reducible refine' x_aug ?hx ?_); (case hx => exact rfl))
  | with_reducible refine x_ipI ?_
  | with_reducible refine x_augS ?_
  | with_reducible refine x_gSub ?_
  | ((with_reducible refine' x_setL ?hq ?hi ?_); (case hq => walk_at "hk"); (case hi => first | exact rfl | assumption))
  | with_reducible refine x_cons ?_
  | with_reducible refine x_nil ?_
  | with_reducible refine x_CB ?_
  | with_reducible refine x_abs ?_
  | with_reducible refine x_intI ?_
  | with_reducible refine x_intB ?_
  | ((with_reducible refine' x_lenL ?hq ?_); (case hq => walk_at "hk"))
  | ((with_reducible refine' x_lenT ?hq ?_); (case hq => walk_at "hk"))
  | ((with_reducible refine x_iteTe ?h ?_); (case h => exact rfl))
  | ((with_reducible refine x_iteFe ?h ?_); (case h => exact rfl))
  | walk_at "use"
  | with_reducible refine x_callS ?_
  | ((with_reducible refine x_lc ?_))
  | ((with_reducible refine x_for ?_))
  | ((with_reducible refine x_iR1 ?_))
  | ((with_reducible refine x_iL ?_))
  | ((with_reducible refine x_iZ ?_))
  | ((with_reducible refine x_yes ?_))
  | ((with_reducible refine' x_NIDt ?hq ?_); (case hq => assumption))
  | ((with_reducible refine' x_NIDf ?hq ?_); (case hq => assumption))
  | ((with_reducible refine' x_IIDf ?hq ?_); (case hq => assumption))
  | ((with_reducible refine' x_IIDt ?hq ?_); (case hq => assumption))
  | ((with_reducible refine' x_ixDs ?hd ?hq ?_); (case hd => assumption); (case hq => assumption))
  | ((with_reducible refine x_InSt ?h ?_); (case h => decide +kernel))
  | ((with_reducible refine x_InSf ?h ?_); (case h => decide +kernel))
  | ((with_reducible refine' x_notInI ?hq ?_); (case hq => walk_at "hk"))
  | ((with_reducible refine' x_inTt ?hq ?hv ?ha ?he ?_); (case hq => walk_at "hk"); (case hv => exact rfl); (case ha => exact rfl); (case he => decide +kernel))
  | ((with_reducible refine' x_inTf ?hq ?hv ?ha ?he ?_); (case hq => walk_at "hk"); (case hv => exact rfl); (case ha => exact rfl); (case he => decide +kernel))
  | ((with_reducible refine' x_slT ?hq ?hw ?_); (case hq => walk_at "hk"); (case hw => with_unfolding_all exact of_decide_eq_true rfl))
  | ((with_reducible refine' x_slL ?hq ?_); (case hq => walk_at "hk"))
  | ((with_reducible refine' x_catT ?hq ?hr ?n1 ?n2 ?hl ?_); (case hq => walk_at "hk"); (case hr => walk_at "hk"); (case n1 => exact List.cons_ne_nil _ _); (case n2 => exact List.cons_ne_nil _ _); (case hl => exact Nat.le_of_ble_eq_true rfl))
  | ((with_reducible refine x_bm ?_))
  | ((with_reducible refine x_lstRg ?_))
  | ((with_reducible refine x_rg1 ?_))
  | ((with_reducible refine And.intro ?h ?_); (case h => exact tyL (by assumption)))
  | dsimp only)
local macro_rules | `(tactic| walk_at "use") => `(tactic| fail)
local macro_rules | `(tactic| walk_at "rd") => `(tactic| repeat' (walk_at "rd1"))
local macro_rules | `(tactic| walk_at "ex") => `(tactic| first | exact Ex.refl _ | assumption | (refine' Ex.trans ?he (by assumption); (case he => walk_at "ex")))

local macro_rules | `(tactic| walk_at "bg") => `(tactic| first | assumption | exact Ex.bag (by assumption) (by walk_at "bg"))
local macro_rules | `(tactic| walk_at "use") => `(tactic| ((with_reducible refine' u_Ltake ?hb ?h0 ?h1 ?_); (case hb => walk_at "bg"); (case h0 => omega); (case h1 => omega); intro _ _ _ _ _))
local macro_rules | `(tactic| walk_at "use") => `(tactic| ((with_reducible refine' u_Lnumber ?hb ?h0 ?h1 ?_); (case hb => walk_at "bg"); (case h0 => omega); (case h1 => omega); intro _ _ _ _ _))
section
variable {P : Program} {w : World} {K : PySem.W.Frag} {mg : Str → Option Value} {base : Heap} {a : Ad} {H H1 H' : Hp} {Q : VK} {E : XK} {p b s : Addr} {q : C}
def isFile (fs f : Int) : Prop := 0 ≤ f ∧ f < fs
def sp_Ltwo : Sp := fun vs H Q _ => ∃ (b : Addr) (fs : Int), vs = [.ref b, .int fs] ∧ Bag b H ∧ (fs = 2 ∨ fs = 3) ∧ ∀ p1 f g H1, Ex H H1 → H1 p1 = some (.tup [.int f, .int g]) → isFile fs f → isFile fs g → f ≠ g → Q (.ref p1) H1
theorem u_Ltwo {fs : Int} (hb : Bag b H) (h0 : fs = 2 ∨ fs = 3) (k : ∀ p1 f g H1, Ex H H1 → H1 p1 = some (.tup [.int f, .int g]) → isFile fs f → isFile fs g → f ≠ g → Q (.ref p1) H1) : sp_Ltwo [.ref b, .int fs] H Q E := ⟨b, fs, rfl, hb, h0, k⟩
theorem two_of {ms : List Int} {ns : List Int} {fs : Int} (hp : ms.Perm ns) (h : ∀ x ∈ ns, isFile fs x) (nd : ns.Nodup) (hl : 2 ≤ ns.length) : ∃ f g, atI (ms.map V.int) 0 = some (V.int f) ∧ atI (ms.map V.int) 1 = some (V.int g) ∧ isFile fs f ∧ isFile fs g ∧ f ≠ g := by
  have hl2 : 2 ≤ ms.length := by rw [hp.length_eq]; exact hl
  match ms, hl2 with
  | f :: g :: r, _ =>
    refine ⟨f, g, at_nat (by decide) rfl, at_nat (by decide) rfl, h f (hp.mem_iff.mp (by simp)), h g (hp.mem_iff.mp (by simp)), ?_⟩
    have nd2 : (f :: g :: r).Nodup := hp.nodup_iff.mpr nd
    intro e
    subst e
    simp at nd2
theorem ok_Ltwo (T : Txt K w mg a) : FnOk P w K mg base CX0 3 a.a_Ltwo a.fd_Ltwo ["_law_bag_here", "_law_files"] sp_Ltwo := by
  refine T.F_Ltwo.ok sc_Ltwo (fun vs H Q E h => ?_) (fun cdv A outer s H vs Q E hr h => ?_)
  · obtain ⟨b, m, rfl, _⟩ := h; rfl
  · obtain ⟨b, fs, rfl, hb, hfs, k⟩ := h
    have G_Lmixed := ok_Lmixed (P := P) (base := base) T
    refine ⟨_, (pss_cons (ps_set (i := 2) sc_Ltwo.nd rfl (Or.inl rfl) (pe_call G_Lmixed (hr.mono (by decide)) (by rfl) T.m_Lmixed T.k_Lmixed T.b_Lmixed .nil pass0 (pa_cons (pv 0) (pa_cons (pe_listRg rfl (by rfl) T.n_list (prg_1 (by rfl) T.n_range (pv 1))) pa_nil))))
      (pss_one (ps_ret (pe_tup (pa_cons (pe_ix ix_list (pv 2) pe_int (fun _ _ => rfl)) (pa_cons (pe_ix ix_list (pv 2) pe_int (fun _ _ => rfl)) pa_nil)))))), ?_⟩
    walk_at "rd"
    refine ⟨RgOk.of_le (by omega) (by omega) (by omega) (by omega), x_new ?_⟩
    intro l H1 e1 f1 h1
    have nsx : ∃ ns : List Int, H1 l = some (.lst (ns.map V.int)) ∧ ns.length ≤ 1000 ∧ (∀ x ∈ ns, isFile fs x) ∧ ns.Nodup ∧ 2 ≤ ns.length := by
      rcases hfs with e | e
      · rw [e] at h1
        exact ⟨[0, 1], h1, by decide, by rw [e]; intro x hx; simp at hx; unfold isFile; omega, by decide, by decide⟩
      · rw [e] at h1
        exact ⟨[0, 1, 2], h1, by decide, by rw [e]; intro x hx; simp at hx; unfold isFile; omega, by decide, by decide⟩
    obtain ⟨ns, hs, i0, i1, i2, i3⟩ := nsx
    walk_at "rd"
    refine u_Lmixed (by walk_at "bg") hs i0 fun p2 ms H2 e2 h2 pm => ?_
    obtain ⟨f, g, a1, a2, a3, a4, a5⟩ := two_of pm i1 i2 i3
    walk_at "rd"
    rename_i h3
    exact k _ _ _ _ (by walk_at "ex") h3 a3 a4 a5
def C.word : C → Str
  | .all _ => "all" | .up _ _ => "up" | .swap _ _ => "swap" | .wheel _ _ _ => "wheel" | .about => "about" | .front _ _ => "front" | .halve => "halve" | .pair => "pair" | .others => "others" | .fill => "fill"
/-- a call for so many files -/
def C.ok (q : C) (fs : Int) : Prop := match q with
  | .all k => k ≠ 0
  | .up f k => isFile fs f ∧ k ≠ 0
  | .swap f g => isFile fs f ∧ isFile fs g ∧ f ≠ g
  | .wheel f g k => isFile fs f ∧ isFile fs g ∧ f ≠ g ∧ k ≠ 0
  | .front f g => isFile fs f ∧ isFile fs g ∧ f ≠ g
  | _ => True
/-- the size of its k -/
def C.kAbs : C → Nat
  | .all k => k.natAbs | .up _ k => k.natAbs | .wheel _ _ k => k.natAbs | _ => 0
def ten : List Str := ["all", "up", "swap", "wheel", "about", "front", "halve", "pair", "others", "fill"]
def sp_Lcall : Sp := fun vs H Q _ => ∃ (b s : Addr) (fs m : Int) (ks : List Str), vs = [.ref b, .int fs, .ref s, .int m] ∧ Bag b H ∧ (fs = 2 ∨ fs = 3) ∧ H s = some (.lst (ks.map V.str)) ∧ 0 < ks.length ∧ ks.length ≤ 1000 ∧ (∀ x ∈ ks, x ∈ ten) ∧ 0 < m ∧ m < 1000000 ∧
  ∀ p1 (q : C) H1, Ex H H1 → H1 p1 = some (.tup q.vals) → q.ok fs → q.kAbs ≤ 4 + m.natAbs → Q (.ref p1) H1
theorem u_Lcall {fs m : Int} (ks : List Str) (hb : Bag b H) (h0 : fs = 2 ∨ fs = 3) (h1 : H s = some (.lst (ks.map V.str))) (h2 : 0 < ks.length) (h3 : ks.length ≤ 1000) (h4 : ∀ x ∈ ks, x ∈ ten) (h5 : 0 < m) (h6 : m < 1000000) (k : ∀ p1 (q : C) H1, Ex H H1 → H1 p1 = some (.tup q.vals) → q.ok fs → q.kAbs ≤ 4 + m.natAbs → Q (.ref p1) H1) :
    sp_Lcall [.ref b, .int fs, .ref s, .int m] H Q E := ⟨b, s, fs, m, ks, rfl, hb, h0, h1, h2, h3, h4, h5, h6, k⟩
theorem NB.strs {ks : List Str} : NB (.lst (ks.map V.str)) := by
  cases ks with
  | nil => exact NB.len (by decide)
  | cons x r => exact NB.at0b rfl
local macro_rules | `(tactic| walk_at "nb") => `(tactic| exact NB.strs)
local macro_rules | `(tactic| walk_at "use") => `(tactic| ((with_reducible refine' u_Ltwo ?hb ?h0 ?_); (case hb => walk_at "bg"); (case h0 => assumption); intro _ _ _ _ _ _ _ _ _))
theorem ok_Lcall (T : Txt K w mg a) : FnOk P w K mg base CX0 4 a.a_Lcall a.fd_Lcall ["_law_bag_here", "_law_files", "_law_kinds", "_law_most"] sp_Lcall := by
  refine T.F_Lcall.ok sc_Lcall (fun vs H Q E h => ?_) (fun cdv A outer s H vs Q E hr h => ?_)
  · obtain ⟨b, s, fs, m, ks, rfl, _⟩ := h; rfl
  · obtain ⟨b, s, fs, m, ks, rfl, hb, hfs, hs, l0, l1, ht, m0, m1, k⟩ := h
    have G_Ltake := ok_Ltake (P := P) (base := base) T
    have G_Lone := ok_Lone (P := P) (base := base) T
    have G_Lnumber := ok_Lnumber (P := P) (base := base) T
    have G_Ltwo := ok_Ltwo (P := P) (base := base) T
    have f0 : 0 < fs := by omega
    have f1 : fs < 1000 := by omega
    refine ⟨_, (pss_cons (ps_set (i := 4) sc_Lcall.nd rfl (Or.inl rfl) (pe_call G_Lone (hr.mono (by decide)) (by rfl) T.m_Lone T.k_Lone T.b_Lone .nil pass0 (pa_cons (pv 0) (pa_cons (pv 2) pa_nil))))
      (pss_cons (ps_if (pt_cmpR op_eq (pv 4) pe_str (nomark _)) (pss_one (ps_ret (pe_tup (pa_cons pe_str (pa_cons (pe_call G_Lnumber (hr.mono (by decide)) (by rfl) T.m_Lnumber T.k_Lnumber T.b_Lnumber .nil pass0 (pa_cons (pv 0) (pa_cons (pv 3) pa_nil))) pa_nil))))) pss_nil)
      (pss_cons (ps_if (pt_cmpR op_eq (pv 4) pe_str (nomark _)) (pss_one (ps_ret (pe_tup (pa_cons pe_str (pa_cons (pe_call G_Ltake (hr.mono (by decide)) (by rfl) T.m_Ltake T.k_Ltake T.b_Ltake .nil pass0 (pa_cons (pv 0) (pa_cons (pv 1) pa_nil))) (pa_cons (pe_call G_Lnumber (hr.mono (by decide)) (by rfl) T.m_Lnumber T.k_Lnumber T.b_Lnumber .nil pass0 (pa_cons (pv 0) (pa_cons (pv 3) pa_nil))) pa_nil)))))) pss_nil)
      (pss_cons (ps_if (pt_cmpR op_in_seq (pv 4) (pe_tup (pa_cons pe_str (pa_cons pe_str pa_nil))) (by rfl)) (pss_one (ps_ret (pe_op op_catT (pe_tup (pa_cons (pv 4) pa_nil)) (pe_call G_Ltwo (hr.mono (by decide)) (by rfl) T.m_Ltwo T.k_Ltwo T.b_Ltwo .nil pass0 (pa_cons (pv 0) (pa_cons (pv 1) pa_nil)))))) pss_nil)
      (pss_cons (ps_if (pt_cmpR op_eq (pv 4) pe_str (nomark _)) (pss_one (ps_ret (pe_op op_catT (pe_op op_catT (pe_tup (pa_cons pe_str pa_nil)) (pe_call G_Ltwo (hr.mono (by decide)) (by rfl) T.m_Ltwo T.k_Ltwo T.b_Ltwo .nil pass0 (pa_cons (pv 0) (pa_cons (pv 1) pa_nil)))) (pe_tup (pa_cons (pe_call G_Lnumber (hr.mono (by decide)) (by rfl) T.m_Lnumber T.k_Lnumber T.b_Lnumber .nil pass0 (pa_cons (pv 0) (pa_cons (pv 3) pa_nil))) pa_nil))))) pss_nil)
      (pss_one (ps_ret (pe_tup (pa_cons (pv 4) pa_nil))))))))), ?_⟩
    walk_at "rd"
    refine u_Lone hb hs NB.strs (by rw [List.length_map]; exact l0) (by rw [List.length_map]; omega) fun v H1 e1 hv => ?_
    obtain ⟨x, hx, rfl⟩ := List.mem_map.mp hv
    have hx := ht x hx
    simp only [ten, List.mem_cons, List.not_mem_nil, or_false] at hx
    rcases hx with rfl | rfl | rfl | rfl | rfl | rfl | rfl | rfl | rfl | rfl
    all_goals walk_at "rd"
    · rename_i h; exact k _ (.all _) _ (by walk_at "ex") h (by assumption) (by assumption)
    · rename_i h; exact k _ (.up _ _) _ (by walk_at "ex") h ⟨⟨by assumption, by assumption⟩, by assumption⟩ (by assumption)
    · rename_i h; exact k _ (.swap _ _) _ (by walk_at "ex") h ⟨by assumption, by assumption, by assumption⟩ (Nat.zero_le _)
    · rename_i h; exact k _ (.wheel _ _ _) _ (by walk_at "ex") h ⟨by assumption, by assumption, by assumption, by assumption⟩ (by assumption)
    · rename_i h; exact k _ .about _ (by walk_at "ex") h trivial (Nat.zero_le _)
    · rename_i h; exact k _ (.front _ _) _ (by walk_at "ex") h ⟨by assumption, by assumption, by assumption⟩ (Nat.zero_le _)
    · rename_i h; exact k _ .halve _ (by walk_at "ex") h trivial (Nat.zero_le _)
    · rename_i h; exact k _ .pair _ (by walk_at "ex") h trivial (Nat.zero_le _)
    · rename_i h; exact k _ .others _ (by walk_at "ex") h trivial (Nat.zero_le _)
    · rename_i h; exact k _ .fill _ (by walk_at "ex") h trivial (Nat.zero_le _)
def sp_Lall_kinds : Sp := fun vs H Q _ => vs = [] ∧ ∀ p1 H1, Ex H H1 → H1 p1 = some (.lst (ten.map V.str)) → Q (.ref p1) H1
theorem u_Lall_kinds (k : ∀ p1 H1, Ex H H1 → H1 p1 = some (.lst (ten.map V.str)) → Q (.ref p1) H1) : sp_Lall_kinds [] H Q E := ⟨rfl, k⟩
theorem ok_Lall_kinds (T : Txt K w mg a) : FnOk P w K mg base CX0 1 a.a_Lall_kinds a.fd_Lall_kinds [] sp_Lall_kinds := by
  refine T.F_Lall_kinds.ok sc_Lall_kinds (fun vs H Q E h => ?_) (fun cdv A outer s H vs Q E hr h => ?_)
  · obtain ⟨rfl, _⟩ := h; rfl
  · obtain ⟨rfl, k⟩ := h
    refine ⟨_, (pss_one (ps_ret (pe_lst (pa_cons pe_str (pa_cons pe_str (pa_cons pe_str (pa_cons pe_str (pa_cons pe_str (pa_cons pe_str (pa_cons pe_str (pa_cons pe_str (pa_cons pe_str (pa_cons pe_str pa_nil))))))))))))), ?_⟩
    walk_at "rd"
    rename_i h
    exact k _ _ (by walk_at "ex") h
end
end My

set_option Elab.async false
set_option linter.all false
set_option maxRecDepth 100000
set_option maxHeartbeats 8000000
namespace My
open PySem PySem.Spec PyProof.Rows L2 Sx
local macro_rules | `(tactic| walk_at "nb") => `(tactic| first | exact NB.tup | exact NB.ints | exact NB.len (of_decide_eq_true rfl) | exact NB.at0b rfl | exact NB.at3b rfl | exact NB.ins | exact NB.own | exact NB.frz | exact NB.refs (by assumption) | assumption)
local macro_rules | `(tactic| walk_at "ne") => `(tactic| first | assumption | exact Ne.symm (by assumption) | exact ne_of_none (by assumption) (by assumption) | exact Ne.symm (ne_of_none (by assumption) (by assumption)))
local macro_rules | `(tactic| walk_at "hk") => `(tactic| first
  | assumption
  | exact upd_same
  | (refine' (upd_ne ?hkne).trans ?hkq; (case hkne => walk_at "ne"); (case hkq => walk_at "hk"))
  | (refine' Ex.kp (by assumption) _ _ ?hkq ?hkn; (case hkq => walk_at "hk"); (case hkn => walk_at "nb")))
local macro_rules | `(tactic| walk_at "rd1") => `(tactic| first
  | ((with_reducible refine' x_var ?hx ?_); (case hx => exact rfl))
  | with_reducible refine x_c ?_
  | with_reducible refine x_op ?_
  | with_reducible refine x_un ?_
  | with_reducible refine x_I0 ?_
  | with_reducible refine x_U ?_
  | ((with_reducible refine x_I ?hc ?_); (case hc => first | exact (by decide : (0 : Int) < _) | (show (0 : Int) < _; omega) | (show CMul _ _; first | exact .inl ⟨by omega, by omega⟩ | exact .inr ⟨by omega, by omega⟩) | (show CDiv _ _; exact ⟨by omega, by omega⟩) | (show CDivW _ _; exact wide_div (b := 200) (by omega) (by assumption) (by decide) (by decide)) | (show CDivW _ _; exact wide_div (b := 31) (by omega) (by omega) (by decide) (by decide))))
  | with_reducible refine x_EqI ?_
  | with_reducible refine x_NeI ?_
  | ((with_reducible refine x_EqSt ?h ?_); (case h => decide +kernel))
  | ((with_reducible refine x_EqSf ?h ?_); (case h => decide +kernel))
  | ((with_reducible refine x_NeSt ?h ?_); (case h => decide +kernel))
  | ((with_reducible refine x_NeSf ?h ?_); (case h => decide +kernel))
  | with_reducible refine x_EqS ?_
  | with_reducible refine x_NeS ?_
  | ((with_reducible refine' x_ixL ?hq ?hi ?_); (case hq => walk_at "hk"); (case hi => first | exact rfl | assumption))
  | ((with_reducible refine' x_ixT ?hq ?hi ?_); (case hq => walk_at "hk"); (case hi => first | exact rfl | assumption))
  | with_reducible refine x_chain ?_
  | with_reducible refine x_tup ?_
  | with_reducible refine x_lst ?_
  | ((with_reducible refine x_lenNew ?hl ?_); (case hl => exact Nat.le_of_ble_eq_true rfl); intro _ _ _ _ _)
  | ((with_reducible refine x_new ?_); intro _ _ _ _ _)
  | with_reducible refine x_sl ?_
  | with_reducible refine x_noPart ?_
  | with_reducible refine x_part ?_
  | with_reducible refine x_ex_int ?_
  | with_reducible refine x_ex_bl ?_
  | with_reducible refine x_ex_2 ?_
  | with_reducible refine x_test ?_
  | with_reducible refine x_B ?_
  | with_reducible refine x_and ?_
  | with_reducible refine x_or ?_
  | with_reducible refine x_not ?_
  | with_reducible refine x_andV ?_
  | with_reducible refine x_orV ?_
  | with_reducible refine x_notV ?_
  | with_reducible refine x_ifE ?_
  | with_reducible refine x_iteT ?_
  | with_reducible refine x_iteF ?_
  | ((with_reducible refine x_iteD ?_ ?_) <;> intro _)
  | ((with_reducible refine x_iteN ?_ ?_) <;> intro _)
  | with_reducible refine x_if ?_
  | with_reducible refine x_seq ?_
  | with_reducible refine x_next ?_
  | with_reducible refine x_asg ?_
  | with_reducible refine x_gName ?_
  | ((with_reducible refine' x_gTup ?hq ?hn ?_); (case hq => walk_at "hk"); (case hn => exact rfl))
  | with_reducible refine x_gCons ?_
  | with_reducible refine x_gNil ?_
  | ((with_reducible refine' x_gConsE ?h ?_); (case h => exact rfl))
  | ((with_reducible refine x_gNilE ?h ?_); (case h => exact rfl))
  | with_reducible refine x_ret ?_
  | with_reducible refine x_drop ?_
  | with_reducible refine x_par ?_
  | ((with_reducible refine' x_aug ?hx ?_); (case hx => exact rfl))
  | with_reducible refine x_ipI ?_
  | with_reducible refine x_augS ?_
  | with_reducible refine x_gSub ?_
  | ((with_reducible refine' x_setL ?hq ?hi ?_); (case hq => walk_at "hk"); (case hi => first | exact rfl | assumption))
  | with_reducible refine x_cons ?_
  | with_reducible refine x_nil ?_
  | with_reducible refine x_CB ?_
  | with_reducible refine x_abs ?_
  | with_reducible refine x_intI ?_
  | with_reducible refine x_intB ?_
  | ((with_reducible refine' x_lenL ?hq ?_); (case hq => walk_at "hk"))
  | ((with_reducible refine' x_lenT ?hq ?_); (case hq => walk_at "hk"))
  | ((with_reducible refine x_iteTe ?h ?_); (case h => exact rfl))
  | ((with_reducible refine x_iteFe ?h ?_); (case h => exact rfl))
  | walk_at "use"
  | with_reducible refine x_callS ?_
  | ((with_reducible refine x_lc ?_))
  | ((with_reducible refine x_for ?_))
  | ((with_reducible refine x_iR1 ?_))
  | ((with_reducible refine x_iL ?_))
  | ((with_reducible refine x_iZ ?_))
  | ((with_reducible refine x_yes ?_))
  | ((with_reducible refine' x_NIDt ?hq ?_); (case hq => assumption))
  | ((with_reducible refine' x_NIDf ?hq ?_); (case hq => assumption))
  | ((with_reducible refine' x_IIDf ?hq ?_); (case hq => assumption))
  | ((with_reducible refine' x_IIDt ?hq ?_); (case hq => assumption))
  | ((with_reducible refine' x_ixDs ?hd ?hq ?_); (case hd => assumption); (case hq => assumption))
  | ((with_reducible refine x_InSt ?h ?_); (case h => decide +kernel))
  | ((with_reducible refine x_InSf ?h ?_); (case h => decide +kernel))
  | ((with_reducible refine' x_notInI ?hq ?_); (case hq => walk_at "hk"))
  | ((with_reducible refine' x_inTt ?hq ?hv ?ha ?he ?_); (case hq => walk_at "hk"); (case hv => exact rfl); (case ha => exact rfl); (case he => decide +kernel))
  | ((with_reducible refine' x_inTf ?hq ?hv ?ha ?he ?_); (case hq => walk_at "hk"); (case hv => exact rfl); (case ha => exact rfl); (case he => decide +kernel))
  | ((with_reducible refine' x_slT ?hq ?hw ?_); (case hq => walk_at "hk"); (case hw => with_unfolding_all exact of_decide_eq_true rfl))
  | ((with_reducible refine' x_slL ?hq ?_); (case hq => walk_at "hk"))
  | ((with_reducible refine' x_catT ?hq ?hr ?n1 ?n2 ?hl ?_); (case hq => walk_at "hk"); (case hr => walk_at "hk"); (case n1 => exact List.cons_ne_nil _ _); (case n2 => exact List.cons_ne_nil _ _); (case hl => exact Nat.le_of_ble_eq_true rfl))
  | ((with_reducible refine x_bm ?_))
  | ((with_reducible refine x_lstRg ?_))
  | ((with_reducible refine x_rg1 ?_))
  | ((with_reducible refine And.intro ?h ?_); (case h => exact tyL (by assumption)))
  | dsimp only)
local macro_rules | `(tactic| walk_at "use") => `(tactic| fail)
local macro_rules | `(tactic| walk_at "rd") => `(tactic| repeat' (walk_at "rd1"))
local macro_rules | `(tactic| walk_at "ex") => `(tactic| first | exact Ex.refl _ | assumption | (refine' Ex.trans ?he (by assumption); (case he => walk_at "ex")))
local macro_rules | `(tactic| walk_at "rd1") => `(tactic| first
  | ((with_reducible refine x_iteDf ?h ?_); (case h => exact rfl))
  | ((with_reducible refine x_iteDt ?h ?_); (case h => exact rfl))
  | ((with_reducible refine x_iteNf ?h ?_); (case h => exact rfl))
  | ((with_reducible refine x_iteNt ?h ?_); (case h => exact rfl))
  | ((with_reducible refine x_isiI (r := true) ?h ?_); (case h => decide +kernel))
  | ((with_reducible refine x_isiI (r := false) ?h ?_); (case h => decide +kernel))
  | ((with_reducible refine x_isiS (r := true) ?h ?_); (case h => decide +kernel))
  | ((with_reducible refine x_isiS (r := false) ?h ?_); (case h => decide +kernel))
  | ((with_reducible refine x_isiB (r := true) ?h ?_); (case h => decide +kernel))
  | ((with_reducible refine x_isiB (r := false) ?h ?_); (case h => decide +kernel))
  | ((with_reducible refine' x_isiT (r := true) ?hp ?h ?_); (case hp => walk_at "hk"); (case h => decide +kernel))
  | ((with_reducible refine' x_isiT (r := false) ?hp ?h ?_); (case hp => walk_at "hk"); (case h => decide +kernel))
  | ((with_reducible refine' x_isiL (r := true) ?hp ?h ?_); (case hp => walk_at "hk"); (case h => decide +kernel))
  | ((with_reducible refine' x_isiL (r := false) ?hp ?h ?_); (case hp => walk_at "hk"); (case h => decide +kernel))
  | ((with_reducible refine' x_isi2L ?hp ?hl ?_); (case hp => walk_at "hk"); (case hl => walk_at "hk"))
  | ((with_reducible refine' x_isi2T ?hp ?hl ?_); (case hp => walk_at "hk"); (case hl => walk_at "hk"))
  | ((with_reducible refine' x_tupOfL ?hq ?_); (case hq => walk_at "hk"))
  | ((with_reducible refine' x_tupOfT ?hq ?_); (case hq => walk_at "hk"))
  | ((with_reducible refine x_lenS ?h ?_); (case h => exact Nat.le_of_ble_eq_true rfl))
  | ((with_reducible refine' x_all ?hq ?_); (case hq => walk_at "hk"))
  | with_reducible refine x_lenSet ?_)

local macro_rules | `(tactic| walk_at "bg") => `(tactic| first | assumption | exact Ex.bag (by assumption) (by walk_at "bg"))
local macro_rules | `(tactic| walk_at "nb") => `(tactic| first | exact NB.dK | exact NB.rng)
local macro_rules | `(tactic| walk_at "use") => `(tactic| ((with_reducible refine' u_Ltake ?hb ?h0 ?h1 ?_); (case hb => walk_at "bg"); (case h0 => omega); (case h1 => omega); intro _ _ _ _ _))
local macro_rules | `(tactic| walk_at "rd1") => `(tactic| first
  | ((with_reducible refine x_powE (n := 10000000000000000000000000000000000000000) ?hc ?he ?_); (case hc => exact ⟨by decide, by decide, by decide⟩); (case he => decide +kernel))
  | with_reducible refine x_dict0 ?_
  | ((with_reducible refine' x_slA ?hq ?_); (case hq => walk_at "hk"); intro _ _ _ _)
  | with_reducible refine x_backT ?_)
section
variable {P : Program} {w : World} {K : PySem.W.Frag} {mg : Str → Option Value} {base : Heap} {a : Ad} {H H1 : Hp} {Q : VK} {E : XK} {p bg : Addr} {v : V} {files : Int} {n b e b' e' : Nat}
theorem AllO.nil {F : V → Prop} : ∀ v ∈ ([] : List V), F v := fun _ h => nomatch h
theorem AllO.cons {F : V → Prop} {v : V} {xs : List V} (t : F v) (r : ∀ v ∈ xs, F v) : ∀ u ∈ v :: xs, F u := fun u h => by
  rcases List.mem_cons.mp h with q | h
  · rw [q]; exact t
  · exact r u h
/-- what a bending gives: shown, and an item-wise small tuple if it is one -/
structure Out (G : Prop) (n b e : Nat) (K : PySem.W.Frag) (H : Hp) (v : V) : Prop where
  th : Thing K H v
  sh : (∃ d, DN H d v ∧ Ow.Shw d) ∨ ∃ a, v = .ref a ∧ H a = some (.dK [])
  it : ∀ p xs, v = .ref p → H p = some (.tup xs) → xs.length ≤ n ∧ ∀ x ∈ xs, Itm b e K H x
  nb : G → ∀ p xs, v = .ref p → H p = some (.tup xs) → NB (.lst xs)
theorem word_small : ∀ z ∈ tens ++ odds, PyData.strOk z = true ∧ (z.cps.toList.all fun c => decide (c < 16 ^ 8)) = true ∧ z.cps.size ≤ 10 := by decide +kernel
theorem Itm.str {z : Str} (h : z ∈ tens ++ odds) : Itm 10 0 K H (.str z) :=
  ⟨.str z, ⟨.str z, by rw [DN], let ⟨h1, h2, h3⟩ := word_small z h; Sml.str h1 h2 h3⟩, fun y hy => by cases hy; exact h⟩
theorem Itm.int {i : Int} (h : i.natAbs < 10 ^ 59) : Itm 0 0 K H (.int i) := ⟨.int i, ⟨.int i, by rw [DN], Sml.int h⟩, fun y hy => by cases hy⟩
theorem Itm.bl {i : Bool} : Itm 0 0 K H (.bl i) := ⟨.bl i, ⟨.bool i, by rw [DN], Sml.bool⟩, fun y hy => by cases hy⟩
theorem Itm.non : Itm 0 0 K H .non := ⟨.non, ⟨.none, by rw [DN], Sml.none⟩, fun y hy => by cases hy⟩
theorem Itm.tup {xs : List V} (h : H p = some (.tup xs)) (hi : ∀ x ∈ xs, Itm b e K H x) (hl : xs.length ≤ n) : Itm (n * (b + 1)) (e + 1) K H (.ref p) := by
  obtain ⟨ds, d1, d2, d3⟩ := Itm.all hi
  exact ⟨.tup h, ⟨.tuple ds, by rw [DN]; exact ⟨p, xs, rfl, h, d1⟩, Sml.tup d2 (by omega)⟩, fun y hy => by cases hy⟩
theorem Itm.lst {xs : List V} (h : H p = some (.lst xs)) (nb : NB (.lst xs)) (hi : ∀ x ∈ xs, Itm b e K H x) (hl : xs.length ≤ n) : Itm (n * (b + 1)) (e + 1) K H (.ref p) := by
  obtain ⟨ds, d1, d2, d3⟩ := Itm.all hi
  exact ⟨.lst h nb, ⟨.list ds, by rw [DN]; exact ⟨p, xs, rfl, h, nb, d1⟩, Sml.lst d2 (by omega)⟩, fun y hy => by cases hy⟩
theorem AllI.nil : ∀ v ∈ ([] : List V), Itm b e K H v := fun _ h => nomatch h
theorem AllI.cons {v : V} {xs : List V} (t : Itm b e K H v) (r : ∀ v ∈ xs, Itm b e K H v) : ∀ u ∈ v :: xs, Itm b e K H u := fun u h => by
  rcases List.mem_cons.mp h with q | h
  · rw [q]; exact t
  · exact r u h
theorem AllI.app {xs ys : List V} (t : ∀ v ∈ xs, Itm b e K H v) (r : ∀ v ∈ ys, Itm b e K H v) : ∀ u ∈ xs ++ ys, Itm b e K H u := fun u h => by
  rcases List.mem_append.mp h with h | h
  · exact t u h
  · exact r u h
theorem cutV_mem {xs : List V} {lo hi : Option Int} {x : V} (h : x ∈ cutV xs lo hi) : x ∈ xs := by
  unfold cutV at h
  exact List.mem_of_mem_drop (List.mem_of_mem_take h)
theorem cutV_len {xs : List V} {lo hi : Option Int} : (cutV xs lo hi).length ≤ xs.length := cutV_length xs lo hi
/-- a tuple of such items -/
theorem Out.tup {G : Prop} {xs : List V} (h : H p = some (.tup xs)) (hi : ∀ x ∈ xs, Itm b e K H x) (hl : xs.length ≤ n) (hb : n * (b + 1) ≤ 100000) (he : e < 40) (nb : G → NB (.lst xs)) : Out G n b e K H (.ref p) := by
  obtain ⟨ds, d1, d2, d3⟩ := Itm.all hi
  refine ⟨.tup h, .inl ⟨.tuple ds, by rw [DN]; exact ⟨p, xs, rfl, h, d1⟩, (Sml.tup d2 (n := n) (by omega)).shw hb (by omega)⟩, fun q ys q1 q2 => ?_, fun g q ys q1 q2 => ?_⟩
  · cases q1
    rw [h] at q2
    cases q2
    exact ⟨hl, hi⟩
  · cases q1
    rw [h] at q2
    cases q2
    exact nb g
theorem Out.lst {G : Prop} {xs : List V} (h : H p = some (.lst xs)) (nb : NB (.lst xs)) (hi : ∀ x ∈ xs, Itm b e K H x) (hl : xs.length ≤ n) (hb : n * (b + 1) ≤ 100000) (he : e < 40) : Out G n b e K H (.ref p) := by
  obtain ⟨ds, d1, d2, d3⟩ := Itm.all hi
  refine ⟨.lst h nb, .inl ⟨.list ds, by rw [DN]; exact ⟨p, xs, rfl, h, nb, d1⟩, (Sml.lst d2 (n := n) (by omega)).shw hb (by omega)⟩, fun q ys q1 q2 => ?_, fun g q ys q1 q2 => ?_⟩
  all_goals
    cases q1
    rw [h] at q2
    cases q2
theorem Out.flat {G : Prop} {d : PyData} (t : Thing K H v) (h : DN H d v) (s : Ow.Shw d) (no : ∀ p xs, v = .ref p → H p ≠ some (.tup xs)) : Out G n b e K H v := ⟨t, .inl ⟨d, h, s⟩, fun p xs q1 q2 => absurd q2 (no p xs q1), fun _ p xs q1 q2 => absurd q2 (no p xs q1)⟩
theorem Out.up {G : Prop} {n' b' e' : Nat} (o : Out G n b e K H v) (h1 : n ≤ n') (h2 : b ≤ b') (h3 : e ≤ e') : Out G n' b' e' K H v := ⟨o.th, o.sh, fun p xs q1 q2 => let ⟨k1, k2⟩ := o.it p xs q1 q2; ⟨Nat.le_trans k1 h1, fun x hx => (k2 x hx).up h2 h3⟩, o.nb⟩
theorem Out.mono {G : Prop} (o : Out G n b e K H v) (f : Ex H H1) : Out G n b e K H1 v := by
  have back : ∀ p xs, v = .ref p → H1 p = some (.tup xs) → H p = some (.tup xs) := fun p xs ev h => by
    subst ev
    have t := o.th
    cases t with
    | lst q n => have := f.kp _ _ q n; rw [h] at this; cases this
    | tup q => have := f.kp _ _ q NB.tup; rw [h] at this; cases this; exact q
    | dK q => have := f.kp _ _ q NB.dK; rw [h] at this; cases this
    | ins q c => have := f.kp _ _ q NB.ins; rw [h] at this; cases this
  refine ⟨o.th.mono f, ?_, fun p xs q1 q2 => ?_, fun g p xs q1 q2 => o.nb g p xs q1 (back p xs q1 q2)⟩
  · rcases o.sh with ⟨d, h1, h2⟩ | ⟨a, h1, h2⟩
    · exact .inl ⟨d, DN.mono f d v h1, h2⟩
    · exact .inr ⟨a, h1, f.kp _ _ h2 NB.dK⟩
  · obtain ⟨k1, k2⟩ := o.it p xs q1 (back p xs q1 q2)
    exact ⟨k1, fun x hx => (k2 x hx).mono f⟩
theorem NB.of3 {xs : List V} (h : ∀ c, xs[3]? ≠ some (.ref c)) : NB (.lst xs) := fun x y z c q => by
  injection q with q
  exact h c (by rw [q]; rfl)
theorem NB.of1 {v u : V} {xs : List V} (h : isI v = false) : NB (.lst (u :: v :: xs)) := fun x y z c q => by
  injection q with q
  have := (List.cons.inj (List.cons.inj q).2).1
  rw [this] at h
  cases h
theorem cut_to {xs : List V} {d : Int} (h : 0 ≤ d) (hd : d < (xs.length : Int) + 1) : cutV xs none (some d) = xs.take d.toNat := by
  have e : d = ((d.toNat : Nat) : Int) := by omega
  generalize d.toNat = m at e
  subst e
  unfold cutV
  rw [HT.sIx_nat, HT.sIx_none, List.drop_zero, Nat.sub_zero, Nat.min_eq_left (by omega)]
theorem cut_from {xs : List V} {d : Int} (h : 0 ≤ d) : cutV xs (some d) none = xs.drop d.toNat := by
  have e : d = ((d.toNat : Nat) : Int) := by omega
  generalize d.toNat = m at e
  subst e
  unfold cutV
  rw [HT.sIx_nat, HT.sIx_none]
  by_cases c : m ≤ xs.length
  · rw [Nat.min_eq_left c, List.take_of_length_le (by rw [List.length_drop]; exact Nat.le_refl _)]
  · rw [Nat.min_eq_right (by omega), List.drop_of_length_le (Nat.le_refl _), List.drop_of_length_le (by omega)]
    simp
theorem gen_take {xs ys : List V} {m : Nat} (hm : 1 ≤ m) (g : ∃ (z : Str) (is : List Int), xs = .str z :: is.map V.int ∧ is.length ≤ 3) : NB (.lst (xs.take m ++ ys)) := by
  obtain ⟨z, is, rfl, _⟩ := g
  obtain ⟨m', rfl⟩ : ∃ m', m = m' + 1 := ⟨m - 1, by omega⟩
  exact NB.at0b rfl
theorem len_split {xs : List V} {m : Nat} : (xs.take m).length + (xs.drop m).length = xs.length := by
  rw [List.length_take, List.length_drop]
  omega
theorem Out.int {G : Prop} {i : Int} (h : i.natAbs < 10 ^ 59) : Out G n b e K H (.int i) := Out.flat (d := .int i) (.int i) (by rw [DN]) ((Sml.int h).shw (by omega) (by omega)) fun _ _ q => by cases q
theorem Out.bl {G : Prop} {i : Bool} : Out G n b e K H (.bl i) := Out.flat (d := .bool i) (.bl i) (by rw [DN]) (Sml.bool.shw (by omega) (by omega)) fun _ _ q => by cases q
theorem Out.non {G : Prop} : Out G n b e K H .non := Out.flat (d := .none) .non (by rw [DN]) (Sml.none.shw (by omega) (by omega)) fun _ _ q => by cases q
theorem Out.str {G : Prop} {z : Str} (h : PyData.strOk z = true ∧ (z.cps.toList.all fun c => decide (c < 16 ^ 8)) = true ∧ z.cps.size ≤ 10) : Out G n b e K H (.str z) := Out.flat (d := .str z) (.str z) (by rw [DN]) ((Sml.str h.1 h.2.1 h.2.2).shw (by omega) (by omega)) fun _ _ q => by cases q
theorem Out.dK {G : Prop} (h : H p = some (.dK [])) : Out G n b e K H (.ref p) := ⟨.dK h, .inr ⟨p, rfl, h⟩, fun _ _ q1 q2 => (by cases q1; rw [h] at q2; cases q2), fun _ _ _ q1 q2 => (by cases q1; rw [h] at q2; cases q2)⟩
def Gen (xs : List V) : Prop := ∃ (z : Str) (is : List Int), xs = .str z :: is.map V.int ∧ is.length ≤ 3
theorem lens_fit {m : Nat} (h : m ≤ 1000) : m ≤ sizeLine := Nat.le_trans h (by decide)
def sp_Lbent (K : PySem.W.Frag) : Sp := fun vs H Q _ => ∃ (bg p : Addr) (xs : List V) (n b e : Nat), vs = [.ref bg, .ref p] ∧ Bag bg H ∧ H p = some (.tup xs) ∧ NB (.lst xs) ∧ xs.length ≤ n ∧ (1 ≤ n ∧ n ≤ 10) ∧ (∀ x ∈ xs, Itm b e K H x) ∧ (10 ≤ b ∧ 1 ≤ e ∧ e ≤ 30) ∧ (n + 1) * ((n + 1) * (b + 1) + 1) ≤ 100000 ∧
  ∀ v H1, Ex H H1 → Out (Gen xs) (n + 1) ((n + 1) * (b + 1)) (e + 1) K H1 v → Q v H1
theorem u_Lbent {xs : List V} (hb : Bag bg H) (h : H p = some (.tup xs)) (nb : NB (.lst xs)) (hl : xs.length ≤ n) (hn : 1 ≤ n ∧ n ≤ 10) (hi : ∀ x ∈ xs, Itm b e K H x) (hs : 10 ≤ b ∧ 1 ≤ e ∧ e ≤ 30) (big : (n + 1) * ((n + 1) * (b + 1) + 1) ≤ 100000)
    (k : ∀ v H1, Ex H H1 → Out (Gen xs) (n + 1) ((n + 1) * (b + 1)) (e + 1) K H1 v → Q v H1) : sp_Lbent K [.ref bg, .ref p] H Q E := ⟨bg, p, xs, n, b, e, rfl, hb, h, nb, hl, hn, hi, hs, big, k⟩
local macro_rules | `(tactic| walk_at "rd1") => `(tactic| ((with_reducible refine' x_listOfT ?hq ?_); (case hq => walk_at "hk")))
local macro_rules | `(tactic| walk_at "use") => `(tactic| ((with_reducible refine' u_Lone ?hb ?hs ?nb ?n0 ?n1 ?_); (case hb => walk_at "bg"); (case hs => walk_at "hk"); (case nb => exact NB.at0b rfl); (case n0 => exact Nat.le_of_ble_eq_true rfl); (case n1 => exact Nat.lt_of_le_of_lt (show _ ≤ 100 from Nat.le_of_ble_eq_true rfl) (by decide)); intro _ _ _ _))
theorem ok_Lbent (T : Txt K w mg a) : FnOk P w K mg base CX0 3 a.a_Lbent a.fd_Lbent ["_law_bag_here", "_law_call_here"] (sp_Lbent K) := by
  refine T.F_Lbent.ok sc_Lbent (fun vs H Q E h => ?_) (fun cdv A outer s H vs Q E hr h => ?_)
  · obtain ⟨bg, p, xs, n, b, e, rfl, _⟩ := h; rfl
  · obtain ⟨bg, p, xs, n, b, e, rfl, hb, hp, nb, hl, hn, hi, hs, big, k⟩ := h
    have G_Ltake := ok_Ltake (P := P) (base := base) T
    have G_Lone := ok_Lone (P := P) (base := base) T
    refine ⟨_, (pss_cons (ps_set (i := 2) sc_Lbent.nd rfl (Or.inl rfl) (pe_lst (pa_cons pe_non (pa_cons pe_bl (pa_cons pe_bl (pa_cons pe_int (pa_cons pe_int (pa_cons pe_int (pa_cons pe_int (pa_cons (pe_un un_neg pe_int) (pa_cons pe_str (pa_cons pe_str (pa_cons pe_str (pa_cons pe_str (pa_cons (pe_tup pa_nil) (pa_cons (pe_tup (pa_cons pe_int pa_nil)) (pa_cons (pe_lst pa_nil) (pa_cons pe_str (pa_cons pe_str (pa_cons (pe_op op_pow pe_int pe_int) pa_nil))))))))))))))))))))
      (pss_cons (ps_par (i := 3) (j := 4) rfl sc_Lbent.nd rfl rfl (by decide) rfl rfl (pa_cons (pe_call G_Ltake (hr.mono (by decide)) (by rfl) T.m_Ltake T.k_Ltake T.b_Ltake .nil pass0 (pa_cons (pv 0) (pa_cons pe_int pa_nil))) (pa_cons (pe_call G_Ltake (hr.mono (by decide)) (by rfl) T.m_Ltake T.k_Ltake T.b_Ltake .nil pass0 (pa_cons (pv 0) (pa_cons (pe_op op_add (pe_callB c_len (by rfl) T.n_len PySem.boot_len (pa_cons (pv 1) pa_nil)) pe_int) pa_nil))) pa_nil)) rfl)
      (pss_cons (ps_if (pt_cmpR op_eq (pv 3) pe_int (nomark _)) (pss_one (ps_ret (pe_callTy c_listOf (by rfl) T.n_list (by decide +kernel) (pa_cons (pv 1) pa_nil)))) pss_nil)
      (pss_cons (ps_if (pt_cmpR op_eq (pv 3) pe_int (nomark _)) (pss_one (ps_ret (pe_op op_catA (pe_op op_catA (pe_slice sl_tupA (pv 1) po_none (po_some (pv 4))) (pe_tup (pa_cons (pe_call G_Lone (hr.mono (by decide)) (by rfl) T.m_Lone T.k_Lone T.b_Lone .nil pass0 (pa_cons (pv 0) (pa_cons (pv 2) pa_nil))) pa_nil))) (pe_slice sl_tupA (pv 1) (po_some (pv 4)) po_none)))) pss_nil)
      (pss_cons (ps_if (pt_cmpR op_eq (pv 3) pe_int (nomark _)) (pss_one (ps_ret (pe_op op_catA (pe_slice sl_tupA (pv 1) po_none (po_some (pv 4))) (pe_slice sl_tupA (pv 1) (po_some (pe_op op_add (pv 4) pe_int)) po_none)))) pss_nil)
      (pss_cons (ps_if (pt_cmpR op_eq (pv 3) pe_int (nomark _)) (pss_one (ps_ret (Rv.pe_backT (pv 1)))) pss_nil)
      (pss_cons (ps_if (pt_cmpR op_eq (pv 3) pe_int (nomark _)) (pss_cons (ps_set (i := 5) sc_Lbent.nd rfl (Or.inl rfl) (pe_op op_catA (pe_tup (pa_cons (pe_call G_Lone (hr.mono (by decide)) (by rfl) T.m_Lone T.k_Lone T.b_Lone .nil pass0 (pa_cons (pv 0) (pa_cons (pe_lst (pa_cons pe_str (pa_cons pe_str (pa_cons pe_str (pa_cons pe_str (pa_cons pe_str pa_nil)))))) pa_nil))) pa_nil)) (pe_slice sl_tupA (pv 1) (po_some pe_int) po_none)))
      (pss_one (ps_ret (pe_call G_Lone (hr.mono (by decide)) (by rfl) T.m_Lone T.k_Lone T.b_Lone .nil pass0 (pa_cons (pv 0) (pa_cons (pe_op op_cat (pv 2) (pe_lst (pa_cons pe_dnewK (pa_cons (pe_slice sl_tupA (pv 1) po_none (po_some pe_int)) (pa_cons (pe_tup (pa_cons (pv 1) pa_nil)) (pa_cons pe_str (pa_cons (pe_tup (pa_cons pe_str (pa_cons pe_int pa_nil))) (pa_cons (pe_tup (pa_cons pe_str (pa_cons pe_int pa_nil))) (pa_cons (pv 5) (pa_cons (pv 5) pa_nil)))))))))) pa_nil)))))) pss_nil)
      (pss_cons (ps_if (pt_cmpR op_gt (pe_callB c_len (by rfl) T.n_len PySem.boot_len (pa_cons (pv 1) pa_nil)) pe_int (nomark _)) (pss_cons (ps_set (i := 4) sc_Lbent.nd rfl (Or.inl rfl) (pe_call G_Ltake (hr.mono (by decide)) (by rfl) T.m_Ltake T.k_Ltake T.b_Ltake .nil pass0 (pa_cons (pv 0) (pa_cons (pe_callB c_len (by rfl) T.n_len PySem.boot_len (pa_cons (pv 1) pa_nil)) pa_nil))))
      (pss_one (ps_ret (pe_op op_catA (pe_op op_catA (pe_slice sl_tupA (pv 1) po_none (po_some (pv 4))) (pe_tup (pa_cons (pe_call G_Lone (hr.mono (by decide)) (by rfl) T.m_Lone T.k_Lone T.b_Lone .nil pass0 (pa_cons (pv 0) (pa_cons (pv 2) pa_nil))) pa_nil))) (pe_slice sl_tupA (pv 1) (po_some (pe_op op_add (pv 4) pe_int)) po_none))))) pss_nil)
      (pss_one (ps_ret (pv 1))))))))))), ?_⟩
    have hB : (n + 1) * (b + 1) = n * (b + 1) + (b + 1) := Nat.succ_mul _ _
    have hB2 : (n + 1) * ((n + 1) * (b + 1) + 1) = n * ((n + 1) * (b + 1) + 1) + ((n + 1) * (b + 1) + 1) := Nat.succ_mul _ _
    generalize hBB : (n + 1) * (b + 1) = B at hB hB2 big k
    walk_at "rd"
    rotate_left 6
    · rename_i pa Ka e1 fa ha pb Kb e2 fb hb1 pc Kc e3 fc hc po Ko e4 fo ho dw Kd e5 dw0 dw1 ix Ke e6 ix0 ix1 n0 n1 n2 n3 n4 n5
      exact k _ _ (by walk_at "ex") (Out.mono (Out.tup (b := B) (e := e + 1) (n := n + 1) hp (fun x hx => (hi x hx).up (by omega) (by omega)) (by omega) big (by omega) fun _ => nb) (by walk_at "ex"))
    · rename_i pa Ka e1 fa ha pb Kb e2 fb hb1 pc Kc e3 fc hc po Ko e4 fo ho dw Kd e5 dw0 dw1 ix Ke e6 ix0 ix1 w0 pl Kl e7 fl hl1
      exact k _ _ (by walk_at "ex") (Out.lst (n := n + 1) hl1 nb (fun x hx => ((hi x hx).mono (by walk_at "ex")).up (by omega) (by omega)) (by omega) big (by omega))
    · rename_i pa Ka e1 fa ha pb Kb e2 fb hb1 pc Kc e3 fc hc po Ko e4 fo ho dw Kd e5 dw0 dw1 ix Ke e6 ix0 ix1 w0 w1 p1 K1 g1 h1 o K2 g2 ho1 p2 K3 g3 f3 h3
      have oddI : ∀ x ∈ [V.non, V.bl true, V.bl false, V.int 0, V.int 1, V.int 2, V.int 3, V.int (-1), V.str "all", V.str "", V.str "halve", V.str "wheel", V.ref pa, V.ref pb, V.ref pc, V.str "up", V.str "swap", V.int 10000000000000000000000000000000000000000], Itm 10 1 K Ko x := by
        repeat' (first | exact AllI.nil | refine AllI.cons ?_ ?_)
        all_goals first
          | exact Itm.non.up (by omega) (by omega)
          | exact Itm.bl.up (by omega) (by omega)
          | exact (Itm.int (by decide)).up (by omega) (by omega)
          | exact (Itm.str (by decide +kernel)).up (by omega) (by omega)
          | exact ((Itm.tup (n := 0) (b := 0) (e := 0) ha AllI.nil (by decide)).mono ((e2.trans e3).trans e4)).up (by omega) (by omega)
          | exact ((Itm.tup (n := 1) (b := 0) (e := 0) hb1 (AllI.cons (Itm.int (by decide)) AllI.nil) (by decide)).mono (e3.trans e4)).up (by omega) (by omega)
          | exact ((Itm.lst (n := 0) (b := 0) (e := 0) hc (NB.len (by decide)) AllI.nil (by decide)).mono e4).up (by omega) (by omega)
      have oI := (oddI o ho1).mono (H1 := K3) (by walk_at "ex")
      rw [cut_to ix0 ix1] at h1
      have la := @len_split xs ix.toNat
      refine x_catA (g2.trans g3 |>.kp _ _ h1 NB.tup) h3 (lens_fit (by simp only [List.length_cons, List.length_nil]; omega)) fun p4 K4 g4 h4 => ?_
      walk_at "rd"
      rename_i p5 K5 g5 h5
      rw [cut_from ix0] at h5
      refine x_catA (g5.kp _ _ h4 NB.tup) h5 (lens_fit (by simp only [List.length_append, List.length_cons, List.length_nil]; omega)) fun p6 K6 g6 h6 => ?_
      refine k _ _ (by walk_at "ex") (Out.tup (n := n + 1) h6 (AllI.app (AllI.app ?_ ?_) ?_) (by simp only [List.length_append, List.length_cons, List.length_nil]; omega) big (by omega) fun g => ?_)
      · exact fun x hx => ((hi x (List.mem_of_mem_take hx)).mono (by walk_at "ex")).up (by omega) (by omega)
      · exact AllI.cons ((oI.mono (by walk_at "ex")).up (by omega) (by omega)) AllI.nil
      · exact fun x hx => ((hi x (List.mem_of_mem_drop hx)).mono (by walk_at "ex")).up (by omega) (by omega)
      · by_cases c : 1 ≤ ix.toNat
        · rw [List.append_assoc]; exact gen_take c g
        · rw [show ix.toNat = 0 by omega]
          obtain ⟨z, is, rfl, _⟩ := g
          exact NB.of1 rfl
    · rename_i pa Ka e1 fa ha pb Kb e2 fb hb1 pc Kc e3 fc hc po Ko e4 fo ho dw Kd e5 dw0 dw1 ix Ke e6 ix0 ix1 w0 w1 w2 p1 K1 g1 h1 p2 K2 g2 h2
      rw [cut_to ix0 ix1] at h1
      rw [cut_from (by omega), show (ix + 1).toNat = ix.toNat + 1 by omega] at h2
      have la := @len_split xs ix.toNat
      have lb : (xs.drop (ix.toNat + 1)).length ≤ (xs.drop ix.toNat).length := by rw [List.length_drop, List.length_drop]; omega
      refine x_catA (g2.kp _ _ h1 NB.tup) h2 (lens_fit (by omega)) fun p6 K6 g6 h6 => ?_
      refine k _ _ (by walk_at "ex") (Out.tup (n := n + 1) h6 (AllI.app ?_ ?_) (by rw [List.length_append]; omega) big (by omega) fun g => ?_)
      · exact fun x hx => ((hi x (List.mem_of_mem_take hx)).mono (by walk_at "ex")).up (by omega) (by omega)
      · exact fun x hx => ((hi x (List.mem_of_mem_drop hx)).mono (by walk_at "ex")).up (by omega) (by omega)
      · by_cases c : 1 ≤ ix.toNat
        · exact gen_take c g
        · rw [show ix.toNat = 0 by omega]
          obtain ⟨z, is, rfl, _⟩ := g
          exact NB.ints
    · rename_i pa Ka e1 fa ha pb Kb e2 fb hb1 pc Kc e3 fc hc po Ko e4 fo ho dw Kd e5 dw0 dw1 ix Ke e6 ix0 ix1 w0 w1 w2 w3
      refine ⟨p, xs, rfl, SqT.of (by walk_at "hk"), ?_⟩
      walk_at "rd"
      rename_i p1 K1 g1 f1 h1
      refine k _ _ (by walk_at "ex") (Out.tup (n := n + 1) h1 (fun x hx => ((hi x (List.mem_reverse.mp hx)).mono (by walk_at "ex")).up (by omega) (by omega)) (by rw [List.length_reverse]; omega) big (by omega) fun g => ?_)
      obtain ⟨z, is, rfl, _⟩ := g
      refine NB.of3 fun c q => ?_
      have := List.mem_reverse.mp (List.mem_of_getElem? q)
      rcases List.mem_cons.mp this with r | r
      · cases r
      · obtain ⟨_, _, r⟩ := List.mem_map.mp r
        cases r
    · rename_i pa Ka e1 fa ha pb Kb e2 fb hb1 pc Kc e3 fc hc po Ko e4 fo ho dw Kd e5 dw0 dw1 ix Ke e6 ix0 ix1 w0 w1 w2 w3 w4 pn Kn g1 fn hn o Km g2 ho1 pt Kt g3 ft ht ps Ks g4 hs1
      obtain ⟨zo, rfl, hzo⟩ : ∃ z, o = .str z ∧ z ∈ tens ++ odds := by
        simp only [List.mem_cons, List.not_mem_nil, or_false] at ho1
        rcases ho1 with r | r | r | r | r
        all_goals exact ⟨_, r, by decide +kernel⟩
      rw [cut_from (by decide)] at hs1
      refine x_catA (g4.kp _ _ ht NB.tup) hs1 (lens_fit (by simp only [List.length_cons, List.length_nil, List.length_drop]; omega)) fun pq Kq g5 hq => ?_
      have hp1 : Kq p = some (.tup xs) := by walk_at "hk"
      walk_at "rd"
      refine' x_cat ?q1 ?q2 ?q3 ?_; (case q1 => walk_at "hk"); (case q2 => walk_at "hk"); (case q3 => exact Nat.le_of_ble_eq_true rfl)
      walk_at "rd"
      rename_i pd Kd1 g6 fd hd pf Kf g7 hf pg Kg g8 fg hg ph Kh g9 fh hh pj Kj g10 fj hj pl Kl g11 fl hl1 pm Km1 g12 fm hm v Kv g13 hv
      clear hl1 hm
      refine k _ _ (by walk_at "ex") ((?_ : ∀ u ∈ _, Out (Gen xs) (n + 1) B (e + 1) K Kv u) v hv)
      have big1 : n + 1 ≤ 11 := by omega
      repeat' (first | exact AllO.nil | refine AllO.cons ?_ ?_)
      · exact Out.non
      · exact Out.bl
      · exact Out.bl
      · exact Out.int (by decide)
      · exact Out.int (by decide)
      · exact Out.int (by decide)
      · exact Out.int (by decide)
      · exact Out.int (by decide)
      · exact Out.str (by decide +kernel)
      · exact Out.str (by decide +kernel)
      · exact Out.str (by decide +kernel)
      · exact Out.str (by decide +kernel)
      · exact Out.mono (Out.tup (n := n + 1) (b := B) (e := e + 1) ha AllI.nil (Nat.zero_le _) big (by omega) fun _ => NB.len (by decide)) (by walk_at "ex")
      · exact Out.mono (Out.tup (n := n + 1) (b := B) (e := e + 1) hb1 (AllI.cons ((Itm.int (by decide)).up (by omega) (by omega)) AllI.nil) (by show 1 ≤ n + 1; omega) big (by omega) fun _ => NB.len (by decide)) (by walk_at "ex")
      · exact Out.mono (Out.lst (n := n + 1) (b := B) (e := e + 1) hc (NB.len (by decide)) AllI.nil (Nat.zero_le _) big (by omega)) (by walk_at "ex")
      · exact Out.str (by decide +kernel)
      · exact Out.str (by decide +kernel)
      · exact Out.int (by decide)
      · exact Out.mono (Out.dK hd) (by walk_at "ex")
      · have l1 : (cutV xs none (some 1)).length ≤ 1 := by
          unfold cutV
          rw [show HT.sIx xs.length xs.length (some 1) = min 1 xs.length from HT.sIx_nat _ _ 1, HT.sIx_none, List.length_take]
          omega
        exact Out.mono (Out.tup (n := n + 1) (b := B) (e := e + 1) hf (fun x hx => ((hi x (cutV_mem hx)).mono (by walk_at "ex")).up (by omega) (by omega)) (by omega) big (by omega) fun _ => NB.len (by omega)) (by walk_at "ex")
      · have it := (Itm.tup (n := n) hp1 (fun x hx => (hi x hx).mono (by walk_at "ex")) hl).mono (H1 := Kg) (by walk_at "ex")
        exact Out.mono (Out.tup (n := n + 1) (b := B) (e := e + 1) hg (AllI.cons (it.up (by omega) (by omega)) AllI.nil) (by show 1 ≤ n + 1; omega) big (by omega) fun _ => NB.len (show (1 : Nat) ≠ 4 by decide)) (by walk_at "ex")
      · exact Out.str (by decide +kernel)
      · exact Out.mono (Out.tup (n := n + 1) (b := B) (e := e + 1) hh (AllI.cons ((Itm.str (by decide +kernel)).up (by omega) (by omega)) (AllI.cons ((Itm.int (by decide)).up (by omega) (by omega)) AllI.nil)) (by show 2 ≤ n + 1; omega) big (by omega) fun _ => NB.len (by decide)) (by walk_at "ex")
      · exact Out.mono (Out.tup (n := n + 1) (b := B) (e := e + 1) hj (AllI.cons ((Itm.str (by decide +kernel)).up (by omega) (by omega)) (AllI.cons ((Itm.int (by decide)).up (by omega) (by omega)) AllI.nil)) (by show 2 ≤ n + 1; omega) big (by omega) fun _ => NB.len (by decide)) (by walk_at "ex")
      all_goals exact Out.mono (Out.tup (n := n + 1) (b := B) (e := e + 1) hq (AllI.app (AllI.cons ((Itm.str hzo).up (by omega) (by omega)) AllI.nil) fun x hx => ((hi x (List.mem_of_mem_drop hx)).mono (by walk_at "ex")).up (by omega) (by omega)) (by simp only [List.length_append, List.length_cons, List.length_nil, List.length_drop]; omega) big (by omega) fun _ => NB.at0b rfl) (by walk_at "ex")
    · rename_i pa Ka e1 fa ha pb Kb e2 fb hb1 pc Kc e3 fc hc po Ko e4 fo ho dw Kd e5 dw0 dw1 ix Ke e6 ix0 ix1 w0 w1 w2 w3 w4 w5 iy Ky g0 iy0 iy1 p1 K1 g1 h1 o K2 g2 ho1 p2 K3 g3 f3 h3
      have oddI : ∀ x ∈ [V.non, V.bl true, V.bl false, V.int 0, V.int 1, V.int 2, V.int 3, V.int (-1), V.str "all", V.str "", V.str "halve", V.str "wheel", V.ref pa, V.ref pb, V.ref pc, V.str "up", V.str "swap", V.int 10000000000000000000000000000000000000000], Itm 10 1 K Ko x := by
        repeat' (first | exact AllI.nil | refine AllI.cons ?_ ?_)
        all_goals first
          | exact Itm.non.up (by omega) (by omega)
          | exact Itm.bl.up (by omega) (by omega)
          | exact (Itm.int (by decide)).up (by omega) (by omega)
          | exact (Itm.str (by decide +kernel)).up (by omega) (by omega)
          | exact ((Itm.tup (n := 0) (b := 0) (e := 0) ha AllI.nil (by decide)).mono ((e2.trans e3).trans e4)).up (by omega) (by omega)
          | exact ((Itm.tup (n := 1) (b := 0) (e := 0) hb1 (AllI.cons (Itm.int (by decide)) AllI.nil) (by decide)).mono (e3.trans e4)).up (by omega) (by omega)
          | exact ((Itm.lst (n := 0) (b := 0) (e := 0) hc (NB.len (by decide)) AllI.nil (by decide)).mono e4).up (by omega) (by omega)
      have oI := (oddI o ho1).mono (H1 := K3) (by walk_at "ex")
      rw [cut_to iy0 (by omega)] at h1
      have la := @len_split xs iy.toNat
      have lb : (xs.drop (iy.toNat + 1)).length ≤ (xs.drop iy.toNat).length := by rw [List.length_drop, List.length_drop]; omega
      refine x_catA (g2.trans g3 |>.kp _ _ h1 NB.tup) h3 (lens_fit (by simp only [List.length_cons, List.length_nil]; omega)) fun p4 K4 g4 h4 => ?_
      walk_at "rd"
      rename_i p5 K5 g5 h5
      rw [cut_from (by omega), show (iy + 1).toNat = iy.toNat + 1 by omega] at h5
      refine x_catA (g5.kp _ _ h4 NB.tup) h5 (lens_fit (by simp only [List.length_append, List.length_cons, List.length_nil]; omega)) fun p6 K6 g6 h6 => ?_
      refine k _ _ (by walk_at "ex") (Out.tup (n := n + 1) h6 (AllI.app (AllI.app ?_ ?_) ?_) (by simp only [List.length_append, List.length_cons, List.length_nil]; omega) big (by omega) fun g => ?_)
      · exact fun x hx => ((hi x (List.mem_of_mem_take hx)).mono (by walk_at "ex")).up (by omega) (by omega)
      · exact AllI.cons ((oI.mono (by walk_at "ex")).up (by omega) (by omega)) AllI.nil
      · exact fun x hx => ((hi x (List.mem_of_mem_drop hx)).mono (by walk_at "ex")).up (by omega) (by omega)
      · by_cases c : 1 ≤ iy.toNat
        · rw [List.append_assoc]; exact gen_take c g
        · rw [show iy.toNat = 0 by omega]
          obtain ⟨z, is, rfl, _⟩ := g
          refine NB.of3 fun c q => ?_
          have q2 : (is.map V.int)[2]? = some (.ref c) := q
          rw [List.getElem?_map] at q2
          cases r : is[2]? with
          | none => rw [r] at q2; cases q2
          | some i => rw [r] at q2; cases q2
end
end My

set_option Elab.async false
set_option linter.all false
set_option maxRecDepth 100000
set_option maxHeartbeats 8000000
namespace My
open PySem PySem.Spec PyProof.Rows L2 Sx
local macro_rules | `(tactic| walk_at "nb") => `(tactic| first | exact NB.tup | exact NB.ints | exact NB.len (of_decide_eq_true rfl) | exact NB.at0b rfl | exact NB.at3b rfl | exact NB.ins | exact NB.own | exact NB.frz | exact NB.refs (by assumption) | assumption)
local macro_rules | `(tactic| walk_at "ne") => `(tactic| first | assumption | exact Ne.symm (by assumption) | exact ne_of_none (by assumption) (by assumption) | exact Ne.symm (ne_of_none (by assumption) (by assumption)))
local macro_rules | `(tactic| walk_at "hk") => `(tactic| first
  | assumption
  | exact upd_same
  | (refine' (upd_ne ?hkne).trans ?hkq; (case hkne => walk_at "ne"); (case hkq => walk_at "hk"))
  | (refine' Ex.kp (by assumption) _ _ ?hkq ?hkn; (case hkq => walk_at "hk"); (case hkn => walk_at "nb")))
local macro_rules | `(tactic| walk_at "rd1") => `(tactic| first
  | ((with_reducible refine' x_var ?hx ?_); (case hx => exact rfl))
  | with_reducible refine x_c ?_
  | with_reducible refine x_op ?_
  | with_reducible refine x_un ?_
  | with_reducible refine x_I0 ?_
  | with_reducible refine x_U ?_
  | ((with_reducible refine x_I ?hc ?_); (case hc => first | exact (by decide : (0 : Int) < _) | (show (0 : Int) < _; omega) | (show CMul _ _; first | exact .inl ⟨by omega, by omega⟩ | exact .inr ⟨by omega, by omega⟩) | (show CDiv _ _; exact ⟨by omega, by omega⟩) | (show CDivW _ _; exact wide_div (b := 200) (by omega) (by assumption) (by decide) (by decide)) | (show CDivW _ _; exact wide_div (b := 31) (by omega) (by omega) (by decide) (by decide))))
  | with_reducible refine x_EqI ?_
  | with_reducible refine x_NeI ?_
  | ((with_reducible refine x_EqSt ?h ?_); (case h => decide +kernel))
  | ((with_reducible refine x_EqSf ?h ?_); (case h => decide +kernel))
  | ((with_reducible refine x_NeSt ?h ?_); (case h => decide +kernel))
  | ((with_reducible refine x_NeSf ?h ?_); (case h => decide +kernel))
  | with_reducible refine x_EqS ?_
  | with_reducible refine x_NeS ?_
  | ((with_reducible refine' x_ixL ?hq ?hi ?_); (case hq => walk_at "hk"); (case hi => first | exact rfl | assumption))
  | ((with_reducible refine' x_ixT ?hq ?hi ?_); (case hq => walk_at "hk"); (case hi => first | exact rfl | assumption))
  | with_reducible refine x_chain ?_
  | with_reducible refine x_tup ?_
  | with_reducible refine x_lst ?_
  | ((with_reducible refine x_lenNew ?hl ?_); (case hl => exact Nat.le_of_ble_eq_true rfl); intro _ _ _ _ _)
  | ((with_reducible refine x_new ?_); intro _ _ _ _ _)
  | with_reducible refine x_sl ?_
  | with_reducible refine x_noPart ?_
  | with_reducible refine x_part ?_
  | with_reducible refine x_ex_int ?_
  | with_reducible refine x_ex_bl ?_
  | with_reducible refine x_ex_2 ?_
  | with_reducible refine x_test ?_
  | with_reducible refine x_B ?_
  | with_reducible refine x_and ?_
  | with_reducible refine x_or ?_
  | with_reducible refine x_not ?_
  | with_reducible refine x_andV ?_
  | with_reducible refine x_orV ?_
  | with_reducible refine x_notV ?_
  | with_reducible refine x_ifE ?_
  | with_reducible refine x_iteT ?_
  | with_reducible refine x_iteF ?_
  | ((with_reducible refine x_iteD ?_ ?_) <;> intro _)
  | ((with_reducible refine x_iteN ?_ ?_) <;> intro _)
  | with_reducible refine x_if ?_
  | with_reducible refine x_seq ?_
  | with_reducible refine x_next ?_
  | with_reducible refine x_asg ?_
  | with_reducible refine x_gName ?_
  | ((with_reducible refine' x_gTup ?hq ?hn ?_); (case hq => walk_at "hk"); (case hn => exact rfl))
  | with_reducible refine x_gCons ?_
  | with_reducible refine x_gNil ?_
  | ((with_reducible refine' x_gConsE ?h ?_); (case h => exact rfl))
  | ((with_reducible refine x_gNilE ?h ?_); (case h => exact rfl))
  | with_reducible refine x_ret ?_
  | with_reducible refine x_drop ?_
  | with_reducible refine x_par ?_
  | ((with_reducible refine' x_aug ?hx ?_); (case hx => exact rfl))
  | with_reducible refine x_ipI ?_
  | with_reducible refine x_augS ?_
  | with_reducible refine x_gSub ?_
  | ((with_reducible refine' x_setL ?hq ?hi ?_); (case hq => walk_at "hk"); (case hi => first | exact rfl | assumption))
  | with_reducible refine x_cons ?_
  | with_reducible refine x_nil ?_
  | with_reducible refine x_CB ?_
  | with_reducible refine x_abs ?_
  | with_reducible refine x_intI ?_
  | with_reducible refine x_intB ?_
  | ((with_reducible refine' x_lenL ?hq ?_); (case hq => walk_at "hk"))
  | ((with_reducible refine' x_lenT ?hq ?_); (case hq => walk_at "hk"))
  | ((with_reducible refine x_iteTe ?h ?_); (case h => exact rfl))
  | ((with_reducible refine x_iteFe ?h ?_); (case h => exact rfl))
  | walk_at "use"
  | with_reducible refine x_callS ?_
  | ((with_reducible refine x_lc ?_))
  | ((with_reducible refine x_for ?_))
  | ((with_reducible refine x_iR1 ?_))
  | ((with_reducible refine x_iL ?_))
  | ((with_reducible refine x_iZ ?_))
  | ((with_reducible refine x_yes ?_))
  | ((with_reducible refine' x_NIDt ?hq ?_); (case hq => assumption))
  | ((with_reducible refine' x_NIDf ?hq ?_); (case hq => assumption))
  | ((with_reducible refine' x_IIDf ?hq ?_); (case hq => assumption))
  | ((with_reducible refine' x_IIDt ?hq ?_); (case hq => assumption))
  | ((with_reducible refine' x_ixDs ?hd ?hq ?_); (case hd => assumption); (case hq => assumption))
  | ((with_reducible refine x_InSt ?h ?_); (case h => decide +kernel))
  | ((with_reducible refine x_InSf ?h ?_); (case h => decide +kernel))
  | ((with_reducible refine' x_notInI ?hq ?_); (case hq => walk_at "hk"))
  | ((with_reducible refine' x_inTt ?hq ?hv ?ha ?he ?_); (case hq => walk_at "hk"); (case hv => exact rfl); (case ha => exact rfl); (case he => decide +kernel))
  | ((with_reducible refine' x_inTf ?hq ?hv ?ha ?he ?_); (case hq => walk_at "hk"); (case hv => exact rfl); (case ha => exact rfl); (case he => decide +kernel))
  | ((with_reducible refine' x_slT ?hq ?hw ?_); (case hq => walk_at "hk"); (case hw => with_unfolding_all exact of_decide_eq_true rfl))
  | ((with_reducible refine' x_slL ?hq ?_); (case hq => walk_at "hk"))
  | ((with_reducible refine' x_catT ?hq ?hr ?n1 ?n2 ?hl ?_); (case hq => walk_at "hk"); (case hr => walk_at "hk"); (case n1 => exact List.cons_ne_nil _ _); (case n2 => exact List.cons_ne_nil _ _); (case hl => exact Nat.le_of_ble_eq_true rfl))
  | ((with_reducible refine x_bm ?_))
  | ((with_reducible refine x_lstRg ?_))
  | ((with_reducible refine x_rg1 ?_))
  | ((with_reducible refine And.intro ?h ?_); (case h => exact tyL (by assumption)))
  | dsimp only)
local macro_rules | `(tactic| walk_at "use") => `(tactic| fail)
local macro_rules | `(tactic| walk_at "rd") => `(tactic| repeat' (walk_at "rd1"))
local macro_rules | `(tactic| walk_at "ex") => `(tactic| first | exact Ex.refl _ | assumption | (refine' Ex.trans ?he (by assumption); (case he => walk_at "ex")))
local macro_rules | `(tactic| walk_at "rd1") => `(tactic| first
  | ((with_reducible refine x_iteDf ?h ?_); (case h => exact rfl))
  | ((with_reducible refine x_iteDt ?h ?_); (case h => exact rfl))
  | ((with_reducible refine x_iteNf ?h ?_); (case h => exact rfl))
  | ((with_reducible refine x_iteNt ?h ?_); (case h => exact rfl))
  | ((with_reducible refine x_isiI (r := true) ?h ?_); (case h => decide +kernel))
  | ((with_reducible refine x_isiI (r := false) ?h ?_); (case h => decide +kernel))
  | ((with_reducible refine x_isiS (r := true) ?h ?_); (case h => decide +kernel))
  | ((with_reducible refine x_isiS (r := false) ?h ?_); (case h => decide +kernel))
  | ((with_reducible refine x_isiB (r := true) ?h ?_); (case h => decide +kernel))
  | ((with_reducible refine x_isiB (r := false) ?h ?_); (case h => decide +kernel))
  | ((with_reducible refine' x_isiT (r := true) ?hp ?h ?_); (case hp => walk_at "hk"); (case h => decide +kernel))
  | ((with_reducible refine' x_isiT (r := false) ?hp ?h ?_); (case hp => walk_at "hk"); (case h => decide +kernel))
  | ((with_reducible refine' x_isiL (r := true) ?hp ?h ?_); (case hp => walk_at "hk"); (case h => decide +kernel))
  | ((with_reducible refine' x_isiL (r := false) ?hp ?h ?_); (case hp => walk_at "hk"); (case h => decide +kernel))
  | ((with_reducible refine' x_isi2L ?hp ?hl ?_); (case hp => walk_at "hk"); (case hl => walk_at "hk"))
  | ((with_reducible refine' x_isi2T ?hp ?hl ?_); (case hp => walk_at "hk"); (case hl => walk_at "hk"))
  | ((with_reducible refine' x_tupOfL ?hq ?_); (case hq => walk_at "hk"))
  | ((with_reducible refine' x_tupOfT ?hq ?_); (case hq => walk_at "hk"))
  | ((with_reducible refine x_lenS ?h ?_); (case h => exact Nat.le_of_ble_eq_true rfl))
  | ((with_reducible refine' x_all ?hq ?_); (case hq => walk_at "hk"))
  | with_reducible refine x_lenSet ?_)

local macro_rules | `(tactic| walk_at "bg") => `(tactic| first | assumption | exact Ex.bag (by assumption) (by walk_at "bg"))
local macro_rules | `(tactic| walk_at "nb") => `(tactic| first | exact NB.dK | exact NB.rng)
local macro_rules | `(tactic| walk_at "use") => `(tactic| ((with_reducible refine' u_Ltake ?hb ?h0 ?h1 ?_); (case hb => walk_at "bg"); (case h0 => omega); (case h1 => omega); intro _ _ _ _ _))
local macro_rules | `(tactic| walk_at "use") => `(tactic| ((with_reducible refine' u_Lall_kinds ?_); intro _ _ _ _))
local macro_rules | `(tactic| walk_at "rd1") => `(tactic| with_reducible refine x_iT ?_)
section
variable {P : Program} {w : World} {K : PySem.W.Frag} {mg : Str → Option Value} {base : Heap} {a : Ad} {H H1 : Hp} {Q : VK} {E : XK} {p b : Addr} {v : V} {files : Int}
theorem callV_mono (t : Thing K H v) (e : Ex H H1) : callV H1 files v = callV H files v := by
  rcases t.tupOr with ⟨p, xs, rfl, hp⟩ | ⟨_, no⟩
  · rw [callV_tup hp, callV_tup (e.kp _ _ hp NB.tup)]
  · rw [callV_no no]
    refine callV_no fun p xs ev h => ?_
    subst ev
    cases t with
    | lst q n => have := e.kp _ _ q n; rw [h] at this; cases this
    | tup q => exact no _ _ rfl q
    | dK q => have := e.kp _ _ q NB.dK; rw [h] at this; cases this
    | ins q c => have := e.kp _ _ q NB.ins; rw [h] at this; cases this
theorem sh_repr {G : Prop} {n b e : Nat} (o : Out G n b e K H v) : ∃ z : Str, ∀ H1, Ex H H1 → ∀ Q : VK, Q (.str z) H1 → Rv.rReprX K [v] H1 Q := by
  rcases o.sh with ⟨d, h1, h2⟩ | ⟨a, rfl, h⟩
  · exact ⟨d.shown, fun H1 e Q k => .inl (x_repr (DN.dp d v (DN.mono e d v h1)) h2 k)⟩
  · exact ⟨_, fun H1 e Q k => x_repr0 (e.kp _ _ h NB.dK) k⟩
theorem jdg_out {G : Prop} {n b e : Nat} (o : Out G n b e K H v) : Jdg K H v := ⟨o.th, fun p xs q1 q2 x hx => let i := (o.it p xs q1 q2).2 x hx; ⟨i.th, i.wd⟩⟩
theorem jdg_ins {C dx : Addr} {fs : List (Str × V)} (h : H p = some (.ins C dx fs)) (c : ClsT K C) : Jdg K H (.ref p) := ⟨.ins h c, fun q xs q1 q2 => by cases q1; rw [h] at q2; cases q2⟩
theorem callV_ins {C dx : Addr} {fs : List (Str × V)} (h : H p = some (.ins C dx fs)) : callV H files (.ref p) = false := callV_no fun q xs q1 q2 => by cases q1; rw [h] at q2; cases q2
theorem ok_small {q : C} {fs : Int} (h : q.kAbs ≤ 20) (o : q.ok fs) (h3 : fs ≤ 3) : ∀ x ∈ q.vals, Itm 10 1 K H x := by
  have k : ∀ {z : Str}, z ∈ tens ++ odds → Itm 10 1 K H (.str z) := fun h => (Itm.str h).up (by omega) (by omega)
  have i : ∀ {n : Int}, n.natAbs ≤ 20 → Itm 10 1 K H (.int n) := fun h => (Itm.int (Nat.lt_of_le_of_lt h (by decide))).up (by omega) (by omega)
  have f : ∀ {n : Int}, isFile fs n → Itm 10 1 K H (.int n) := fun h => i (by obtain ⟨h1, h2⟩ := h; omega)
  cases q with
  | all n => exact AllI.cons (k (by decide +kernel)) (AllI.cons (i h) AllI.nil)
  | up g n => exact AllI.cons (k (by decide +kernel)) (AllI.cons (f o.1) (AllI.cons (i h) AllI.nil))
  | swap g n => exact AllI.cons (k (by decide +kernel)) (AllI.cons (f o.1) (AllI.cons (f o.2.1) AllI.nil))
  | wheel g n m => exact AllI.cons (k (by decide +kernel)) (AllI.cons (f o.1) (AllI.cons (f o.2.1) (AllI.cons (i h) AllI.nil)))
  | about => exact AllI.cons (k (by decide +kernel)) AllI.nil
  | front g n => exact AllI.cons (k (by decide +kernel)) (AllI.cons (f o.1) (AllI.cons (f o.2.1) AllI.nil))
  | halve => exact AllI.cons (k (by decide +kernel)) AllI.nil
  | pair => exact AllI.cons (k (by decide +kernel)) AllI.nil
  | others => exact AllI.cons (k (by decide +kernel)) AllI.nil
  | fill => exact AllI.cons (k (by decide +kernel)) AllI.nil
theorem st_zero {q : C} {fs : Int} (hp : H p = some (.tup q.vals)) (h : q.kAbs ≤ 20) (o : q.ok fs) (h3 : fs ≤ 3) : Out True 4 10 1 K H (.ref p) ∧ ∃ p' xs, V.ref p = .ref p' ∧ H p' = some (.tup xs) ∧ Gen xs := by
  obtain ⟨z, is, e, hz, l⟩ := vals_form q
  have len : q.vals.length ≤ 4 := by rw [e, List.length_cons, List.length_map]; omega
  exact ⟨Out.tup hp (ok_small h o h3) len (by decide) (by decide) fun _ => by rw [e]; exact NB.at0b rfl, p, _, rfl, hp, z, is, e, l⟩
/-- where the bending stands -/
def St (K : PySem.W.Frag) (H : Hp) (v : V) : Nat → Prop
  | 0 => Out True 4 10 1 K H v ∧ ∃ p xs, v = .ref p ∧ H p = some (.tup xs) ∧ Gen xs
  | 1 => Out True 5 55 2 K H v
  | _ => Out False 6 336 3 K H v
theorem Out.weak {G : Prop} {n b e n' b' e' : Nat} (o : Out G n b e K H v) (h1 : n ≤ n') (h2 : b ≤ b') (h3 : e ≤ e') : Out False n' b' e' K H v := ⟨o.th, o.sh, (o.up h1 h2 h3).it, fun f => f.elim⟩
theorem St.last : ∀ {i : Nat}, St K H v i → Out False 6 336 3 K H v
  | 0, h => h.1.weak (by decide) (by decide) (by decide)
  | 1, h => Out.weak (G := True) (n := 5) (b := 55) (e := 2) h (by decide) (by decide) (by decide)
  | _ + 2, h => h
def sp_law (K : PySem.W.Frag) : Sp := fun vs H Q _ => ∃ (a : Addr) (ns : List Int), vs = [.ref a] ∧ SqL K H a (ns.map V.int) ∧ ns.length ≤ 63 ∧ ∀ H', Q (.bl true) H'
theorem law_start {ns : List Int} {s : Addr} (hl : ns.length ≤ 63) (hS : SqL K H s (ns.map V.int)) : sp_law K [.ref s] H (fun v _ => v = .bl true) E := ⟨s, ns, rfl, hS, hl, fun _ => rfl⟩
theorem ok_law (T : Txt K w mg a) : Ow.FnG P w K mg base CX0 7 a.a_law a.fd_law ["_law_script"] (sp_law K) := by
  refine Ow.fnG_of T.F_law sc_law (fun vs H Q E h => ?_) (fun cdv A outer s H vs Q E hG hr h => ?_)
  · obtain ⟨s, ns, rfl, _⟩ := h; rfl
  · obtain ⟨s, ns, rfl, hs, hl, k⟩ := h
    have G_Ltake := ok_Ltake (P := P) (base := base) T
    have G_Lbag := ok_Lbag (P := P) (base := base) T
    have G_Lcall := ok_Lcall (P := P) (base := base) T
    have G_Lall_kinds := ok_Lall_kinds (P := P) (base := base) T
    have G_Lbent := ok_Lbent (P := P) (base := base) T
    have G_Ldue := ok_Ldue (P := P) (base := base) T
    have G_is_call := ok_is_call (P := P) (base := base) T
    have G_Script_init := ok_Script_init (P := P) (base := base) T
    refine ⟨_, (pss_cons (ps_set (i := 1) sc_law.nd rfl (Or.inl rfl) (pe_call G_Lbag (hr.mono (by decide)) (by rfl) T.m_Lbag T.k_Lbag T.b_Lbag .nil pass0 (pa_cons (pv 0) pa_nil)))
      (pss_cons (ps_set (i := 2) sc_law.nd rfl (Or.inl rfl) (pe_make T.M_Script G_Script_init (hr.mono (by decide)) (by rfl) T.m_Script T.b_Script_init .nil pass0 (pa_cons pe_int (pa_cons (pe_lst (pa_cons (pe_tup (pa_cons pe_str pa_nil)) pa_nil)) pa_nil))))
      (pss_cons (ps_if (pt_cmpR op_ne (pe_callB (Rv.call_reprX hG hr.units) (by rfl) T.n_repr (by decide +kernel) (pa_cons (pe_lst (pa_cons (pe_call G_is_call (hr.mono (by decide)) (by rfl) T.m_is_call T.k_is_call T.b_is_call .nil pass0 (pa_cons pe_int (pa_cons (pv 2) pa_nil))) (pa_cons (pe_call G_is_call (hr.mono (by decide)) (by rfl) T.m_is_call T.k_is_call T.b_is_call .nil pass0 (pa_cons pe_int (pa_cons (pv 2) pa_nil))) pa_nil))) pa_nil)) (pe_callB (Rv.call_reprX hG hr.units) (by rfl) T.n_repr (by decide +kernel) (pa_cons (pe_lst (pa_cons pe_bl (pa_cons pe_bl pa_nil))) pa_nil)) (nomark _)) (pss_one (ps_ret pe_bl)) pss_nil)
      (pss_cons (ps_for PassesOwn.never rfl (pi_range1 (by rfl) T.n_range (pa_cons pe_int pa_nil)) (pg_name (i := 3) sc_law.nd rfl (Or.inl rfl)) (pss_cons (ps_set (i := 4) sc_law.nd rfl (Or.inl rfl) (pe_op op_add pe_int (pe_call G_Ltake (hr.mono (by decide)) (by rfl) T.m_Ltake T.k_Ltake T.b_Ltake .nil pass0 (pa_cons (pv 1) (pa_cons pe_int pa_nil)))))
      (pss_cons (ps_set (i := 5) sc_law.nd rfl (Or.inl rfl) (pe_call G_Lcall (hr.mono (by decide)) (by rfl) T.m_Lcall T.k_Lcall T.b_Lcall .nil pass0 (pa_cons (pv 1) (pa_cons (pv 4) (pa_cons (pe_call0 G_Lall_kinds (hr.mono (by decide)) (by rfl) T.m_Lall_kinds T.k_Lall_kinds T.b_Lall_kinds .nil pass0) (pa_cons pe_int pa_nil))))))
      (pss_cons (ps_for PassesOwn.never rfl (pi_range1 (by rfl) T.n_range (pa_cons (pe_ix ix_list (pe_lst (pa_cons pe_int (pa_cons pe_int (pa_cons pe_int (pa_cons pe_int pa_nil))))) (pe_call G_Ltake (hr.mono (by decide)) (by rfl) T.m_Ltake T.k_Ltake T.b_Ltake .nil pass0 (pa_cons (pv 1) (pa_cons pe_int pa_nil))) (fun _ _ => rfl)) pa_nil)) (pg_name (i := 6) sc_law.nd rfl (Or.inl rfl)) (pss_one (ps_set (i := 5) sc_law.nd rfl (Or.inl rfl) (pe_ifExp (pt_val (pe_callB call_isi (by rfl) T.n_isinstance (by decide +kernel) (pa_cons (pv 5) (pa_cons (pe_bltn (v := .ty "tuple") (u := .type "tuple") (by rfl) T.n_tuple (by decide +kernel) rfl) pa_nil)))) (pe_call G_Lbent (hr.mono (by decide)) (by rfl) T.m_Lbent T.k_Lbent T.b_Lbent .nil pass0 (pa_cons (pv 1) (pa_cons (pv 5) pa_nil))) (pv 5)))))
      (pss_cons (ps_set (i := 7) sc_law.nd rfl (Or.inl rfl) (pe_callB (Rv.call_reprX hG hr.units) (by rfl) T.n_repr (by decide +kernel) (pa_cons (pv 5) pa_nil)))
      (pss_one (ps_for PassesOwn.never rfl (pi_tup (pe_tup (pa_cons pe_int (pa_cons pe_int pa_nil)))) (pg_name (i := 8) sc_law.nd rfl (Or.inl rfl)) (pss_cons (ps_set (i := 9) sc_law.nd rfl (Or.inl rfl) (pe_call G_Ldue (hr.mono (by decide)) (by rfl) T.m_Ldue T.k_Ldue T.b_Ldue .nil pass0 (pa_cons (pv 8) (pa_cons (pv 5) pa_nil))))
      (pss_one (ps_if (PW.pt (pw_or (pt_cmpR op_ne (pe_callB (Rv.call_reprX hG hr.units) (by rfl) T.n_repr (by decide +kernel) (pa_cons (pe_lst (pa_cons (pe_call G_is_call (hr.mono (by decide)) (by rfl) T.m_is_call T.k_is_call T.b_is_call .nil pass0 (pa_cons (pv 8) (pa_cons (pv 5) pa_nil))) (pa_cons (pe_call G_is_call (hr.mono (by decide)) (by rfl) T.m_is_call T.k_is_call T.b_is_call .nil pass0 (pa_cons (pv 8) (pa_cons (pv 5) pa_nil))) pa_nil))) pa_nil)) (pe_callB (Rv.call_reprX hG hr.units) (by rfl) T.n_repr (by decide +kernel) (pa_cons (pe_lst (pa_cons (pv 9) (pa_cons (pv 9) pa_nil))) pa_nil)) (nomark _)) (pw_or1 (pt_cmpR op_ne (pe_callB (Rv.call_reprX hG hr.units) (by rfl) T.n_repr (by decide +kernel) (pa_cons (pv 5) pa_nil)) (pv 7) (nomark _))))) (pss_one (ps_ret pe_bl)) pss_nil))))))))))
      (pss_one (ps_ret pe_bl)))))), ?_⟩
    walk_at "rd"
    refine u_Lbag hs hl fun b H1 e1 hb => ?_
    walk_at "rd"
    refine x_make ?_
    walk_at "rd"
    refine' u_make ?hc ?nb ?hg ?h2 ?h3 ?hl ?_; (case hc => walk_at "hk"); (case nb => walk_at "nb"); (case h2 => decide); (case h3 => decide); (case hl => exact Nat.le_of_ble_eq_true rfl)
    case hg =>
      intro v hv
      rw [List.mem_singleton.mp hv]
      refine ⟨_, C.about, rfl, ?_, fun _ h => (nomatch h), .nil, trivial⟩
      walk_at "hk"
    intro x dx t H3 e3 f3 h3 h3'
    walk_at "rd"
    refine u_is_callV (jdg_ins h3 T.t_Script) fun H4 e4 => ?_
    rw [callV_ins h3]
    walk_at "rd"
    refine u_is_callV (jdg_ins (e4.kp _ _ h3 NB.ins) T.t_Script) fun H5 e5 => ?_
    rw [callV_ins (e4.kp _ _ h3 NB.ins)]
    walk_at "rd"
    rename_i p6 H6 e6 f6 h6
    refine x_reprX (x_repr (dp_bls (bs := [_, _]) h6) (shw_bls (show 2 ≤ 1000 by decide)) ?_)
    walk_at "rd"
    rename_i p7 H7 e7 f7 h7
    refine x_reprX (x_repr (dp_bls (bs := [_, _]) h7) (shw_bls (show 2 ≤ 1000 by decide)) ?_)
    refine x_NeSf rfl ?_
    have hb7 : Bag b H7 := by walk_at "bg"
    walk_at "rd"
    refine for_rng (m := 50) (by decide) (by decide) (fun i σ H' => ∃ v3 v4 v5 v6 v7 v8 v9 : Option V, σ = [some (.ref s), some (.ref b), some (.ref x), v3, v4, v5, v6, v7, v8, v9] ∧ Bag b H') ⟨_, _, _, _, _, _, _, rfl, hb7⟩ (fun i σ H8 hi h => ?_) (fun σ H8 h => ?_)
    · obtain ⟨v3, v4, v5, v6, v7, v8, v9, rfl, hb8⟩ := h
      clear e1 e3 e4 e5 e6 e7 f6 h6 f7 h7 h3 h3' f3 hb hb7
      walk_at "rd"
      rename_i d2 K1 a1 d2l d2h pk K2 a2 hk2
      obtain ⟨files, hf⟩ : ∃ f, f = 2 + d2 := ⟨_, rfl⟩
      have hf2 : files = 2 ∨ files = 3 := by omega
      have hf3 : files ≤ 3 := by omega
      rw [← hf]
      refine u_Lcall (m := 16) ten (by walk_at "bg") hf2 hk2 (by decide) (by decide) (fun x hx => hx) (by decide) (by decide) fun p3 q K3 a3 hq ok3 small => ?_
      have st0 := st_zero (K := K) hq small ok3 hf3
      have hb3 : Bag b K3 := by walk_at "bg"
      clear hf d2l d2h hk2 a1 a2 a3 hb8
      walk_at "rd"
      rename_i p4 K4 a4 f4 h4 d4 K5 a5 d4l d4h
      obtain ⟨many, hm, m0, m1⟩ : ∃ many : Int, atI [V.int 0, V.int 1, V.int 1, V.int 2] d4 = some (.int many) ∧ 0 ≤ many ∧ many ≤ 2 := by
        rcases (show d4 = 0 ∨ d4 = 1 ∨ d4 = 2 ∨ d4 = 3 by omega) with r | r | r | r <;> (rw [r]; exact ⟨_, rfl, by decide, by decide⟩)
      refine x_ixL (a5.kp _ _ h4 (NB.at3b rfl)) hm ?_
      walk_at "rd"
      have st5 : St K K5 (.ref p3) 0 := ⟨st0.1.mono (by walk_at "ex"), let ⟨p', xs, q1, q2, q3⟩ := st0.2; ⟨p', xs, q1, (a4.trans a5).kp _ _ q2 NB.tup, q3⟩⟩
      have hb5 : Bag b K5 := by walk_at "bg"
      clear a4 f4 h4 a5 hb3 st0
      refine for_rng (m := many) (by omega) (by omega) (fun j σ H' => ∃ (v : V) (v6 : Option V), σ = [some (.ref s), some (.ref b), some (.ref x), some (.int (i : Int)), some (.int files), some v, v6, v7, v8, v9] ∧ Bag b H' ∧ St K H' v j) ⟨_, _, rfl, hb5, st5⟩ (fun j σ H9 hj h => ?_) (fun σ H9 h => ?_)
      · obtain ⟨v, v6', rfl, hb9, st⟩ := h
        rcases st.last.th.tupOr with ⟨p9, xs, rfl, hp⟩ | ⟨⟨bI, bB, bL, bS, bD, kd⟩, no⟩
        · walk_at "rd"
          match j, hj, st with
          | 0, _, st =>
            obtain ⟨o, p', ys, q1, q2, gen⟩ := st
            cases q1
            rw [hp] at q2
            cases q2
            obtain ⟨l1, l2⟩ := o.it _ _ rfl hp
            refine u_Lbent (n := 4) (b := 10) (e := 1) hb9 hp (o.nb trivial _ _ rfl hp) l1 (by decide) l2 (by decide) (by decide) fun v' K10 e10 o' => ?_
            walk_at "rd"
            exact ⟨_, _, rfl, by walk_at "bg", ⟨o'.th, o'.sh, o'.it, fun _ => o'.nb gen⟩⟩
          | 1, _, st =>
            have o : Out True 5 55 2 K H9 (.ref p9) := st
            obtain ⟨l1, l2⟩ := o.it _ _ rfl hp
            refine u_Lbent (n := 5) (b := 55) (e := 2) hb9 hp (o.nb trivial _ _ rfl hp) l1 (by decide) l2 (by decide) (by decide) fun v' K10 e10 o' => ?_
            walk_at "rd"
            exact ⟨_, _, rfl, by walk_at "bg", o'.weak (by decide) (by decide) (by decide)⟩
          | j + 2, hj, _ => exact absurd hj (by omega)
        · walk_at "rd"
          refine x_isiTup kd ?_
          walk_at "rd"
          refine ⟨_, _, rfl, hb9, ?_⟩
          match j, hj, st with
          | 0, _, st =>
            obtain ⟨_, p', ys, q1, q2, _⟩ := st
            exact absurd q2 (no _ _ q1)
          | 1, _, st => exact Out.weak (G := True) (n := 5) (b := 55) (e := 2) st (by decide) (by decide) (by decide)
          | j + 2, hj, _ => exact absurd hj (by omega)
      · obtain ⟨v, v6', rfl, hb9, st⟩ := h
        have o := st.last
        obtain ⟨z, hz⟩ := sh_repr o
        walk_at "rd"
        refine hz _ (Ex.refl _) _ ?_
        walk_at "rd"
        rename_i p10 K10 e10 f10 h10
        refine for_tupl h10 (fun i' σ' H' => ∃ v8 v9 : Option V, σ' = [some (.ref s), some (.ref b), some (.ref x), some (.int (i : Int)), some (.int files), some v, v6', some (.str z), v8, v9] ∧ Ex K10 H') ⟨_, _, rfl, Ex.refl _⟩ (fun i' σ' H' _ h => by obtain ⟨_, _, _, f⟩ := h; exact f.kp _ _ h10 NB.tup) (fun i' y σ' H' hy h => ?_) (fun σ' H' h => ?_)
        · obtain ⟨v8, v9, rfl, f⟩ := h
          obtain ⟨m, rfl⟩ : ∃ m, y = .int m := by
            have := List.mem_of_getElem? hy
            simp only [List.mem_cons, List.not_mem_nil, or_false] at this
            rcases this with r | r <;> exact ⟨_, r⟩
          have oH := o.mono (e10.trans f)
          walk_at "rd"
          refine u_Ldue (b := 336) (e := 3) oH.th (fun p xs q1 q2 => (oH.it p xs q1 q2).2) (by decide) fun K11 e11 => ?_
          walk_at "rd"
          refine u_is_callV (jdg_out (oH.mono e11)) fun K12 e12 => ?_
          rw [callV_mono oH.th e11]
          walk_at "rd"
          refine u_is_callV (jdg_out (oH.mono (e11.trans e12))) fun K13 e13 => ?_
          rw [callV_mono oH.th (e11.trans e12)]
          walk_at "rd"
          rename_i p14 K14 e14 f14 h14
          refine x_reprX (x_repr (dp_bls (bs := [_, _]) h14) (shw_bls (show 2 ≤ 1000 by decide)) ?_)
          walk_at "rd"
          rename_i p15 K15 e15 f15 h15
          refine x_reprX (x_repr (dp_bls (bs := [_, _]) h15) (shw_bls (show 2 ≤ 1000 by decide)) ?_)
          refine x_NeSf rfl ?_
          walk_at "rd"
          refine hz _ (by walk_at "ex") _ ?_
          refine x_var rfl ?_
          refine x_NeSf rfl ?_
          walk_at "rd"
          exact ⟨_, _, rfl, by walk_at "ex"⟩
        · obtain ⟨v8, v9, rfl, f⟩ := h
          exact ⟨_, _, _, _, _, _, _, rfl, by walk_at "bg"⟩
    · walk_at "rd"
      exact k _
end
end My

set_option Elab.async false
set_option linter.all false
set_option maxRecDepth 100000
set_option maxHeartbeats 8000000
namespace My
open PySem PySem.Spec PyProof.Rows L2 Sx
local macro_rules | `(tactic| walk_at "nb") => `(tactic| first | exact NB.tup | exact NB.ints | exact NB.len (of_decide_eq_true rfl) | exact NB.at0b rfl | exact NB.at3b rfl | exact NB.ins | exact NB.own | exact NB.frz | exact NB.refs (by assumption) | assumption)
local macro_rules | `(tactic| walk_at "ne") => `(tactic| first | assumption | exact Ne.symm (by assumption) | exact ne_of_none (by assumption) (by assumption) | exact Ne.symm (ne_of_none (by assumption) (by assumption)))
local macro_rules | `(tactic| walk_at "hk") => `(tactic| first
  | assumption
  | exact upd_same
  | (refine' (upd_ne ?hkne).trans ?hkq; (case hkne => walk_at "ne"); (case hkq => walk_at "hk"))
  | (refine' Ex.kp (by assumption) _ _ ?hkq ?hkn; (case hkq => walk_at "hk"); (case hkn => walk_at "nb")))
local macro_rules | `(tactic| walk_at "rd1") => `(tactic| first
  | ((with_reducible refine' x_var ?hx ?_); (case hx => exact rfl))
  | with_reducible refine x_c ?_
  | with_reducible refine x_op ?_
  | with_reducible refine x_un ?_
  | with_reducible refine x_I0 ?_
  | with_reducible refine x_U ?_
  | ((with_reducible refine x_I ?hc ?_); (case hc => first | exact (by decide : (0 : Int) < _) | (show (0 : Int) < _; omega) | (show CMul _ _; first | exact .inl ⟨by omega, by omega⟩ | exact .inr ⟨by omega, by omega⟩) | (show CDiv _ _; exact ⟨by omega, by omega⟩) | (show CDivW _ _; exact wide_div (b := 200) (by omega) (by assumption) (by decide) (by decide)) | (show CDivW _ _; exact wide_div (b := 31) (by omega) (by omega) (by decide) (by decide))))
  | with_reducible refine x_EqI ?_
  | with_reducible refine x_NeI ?_
  | ((with_reducible refine x_EqSt ?h ?_); (case h => decide +kernel))
  | ((with_reducible refine x_EqSf ?h ?_); (case h => decide +kernel))
  | ((with_reducible refine x_NeSt ?h ?_); (case h => decide +kernel))
  | ((with_reducible refine x_NeSf ?h ?_); (case h => decide +kernel))
  | with_reducible refine x_EqS ?_
  | with_reducible refine x_NeS ?_
  | ((with_reducible refine' x_ixL ?hq ?hi ?_); (case hq => walk_at "hk"); (case hi => first | exact rfl | assumption))
  | ((with_reducible refine' x_ixT ?hq ?hi ?_); (case hq => walk_at "hk"); (case hi => first | exact rfl | assumption))
  | with_reducible refine x_chain ?_
  | with_reducible refine x_tup ?_
  | with_reducible refine x_lst ?_
  | ((with_reducible refine x_lenNew ?hl ?_); (case hl => exact Nat.le_of_ble_eq_true rfl); intro _ _ _ _ _)
  | ((with_reducible refine x_new ?_); intro _ _ _ _ _)
  | with_reducible refine x_sl ?_
  | with_reducible refine x_noPart ?_
  | with_reducible refine x_part ?_
  | with_reducible refine x_ex_int ?_
  | with_reducible refine x_ex_bl ?_
  | with_reducible refine x_ex_2 ?_
  | with_reducible refine x_test ?_
  | with_reducible refine x_B ?_
  | with_reducible refine x_and ?_
  | with_reducible refine x_or ?_
  | with_reducible refine x_not ?_
  | with_reducible refine x_andV ?_
  | with_reducible refine x_orV ?_
  | with_reducible refine x_notV ?_
  | with_reducible refine x_ifE ?_
  | with_reducible refine x_iteT ?_
  | with_reducible refine x_iteF ?_
  | ((with_reducible refine x_iteD ?_ ?_) <;> intro _)
  | ((with_reducible refine x_iteN ?_ ?_) <;> intro _)
  | with_reducible refine x_if ?_
  | with_reducible refine x_seq ?_
  | with_reducible refine x_next ?_
  | with_reducible refine x_asg ?_
  | with_reducible refine x_gName ?_
  | ((with_reducible refine' x_gTup ?hq ?hn ?_); (case hq => walk_at "hk"); (case hn => exact rfl))
  | with_reducible refine x_gCons ?_
  | with_reducible refine x_gNil ?_
  | ((with_reducible refine' x_gConsE ?h ?_); (case h => exact rfl))
  | ((with_reducible refine x_gNilE ?h ?_); (case h => exact rfl))
  | with_reducible refine x_ret ?_
  | with_reducible refine x_drop ?_
  | with_reducible refine x_par ?_
  | ((with_reducible refine' x_aug ?hx ?_); (case hx => exact rfl))
  | with_reducible refine x_ipI ?_
  | with_reducible refine x_augS ?_
  | with_reducible refine x_gSub ?_
  | ((with_reducible refine' x_setL ?hq ?hi ?_); (case hq => walk_at "hk"); (case hi => first | exact rfl | assumption))
  | with_reducible refine x_cons ?_
  | with_reducible refine x_nil ?_
  | with_reducible refine x_CB ?_
  | with_reducible refine x_abs ?_
  | with_reducible refine x_intI ?_
  | with_reducible refine x_intB ?_
  | ((with_reducible refine' x_lenL ?hq ?_); (case hq => walk_at "hk"))
  | ((with_reducible refine' x_lenT ?hq ?_); (case hq => walk_at "hk"))
  | ((with_reducible refine x_iteTe ?h ?_); (case h => exact rfl))
  | ((with_reducible refine x_iteFe ?h ?_); (case h => exact rfl))
  | walk_at "use"
  | with_reducible refine x_callS ?_
  | ((with_reducible refine x_lc ?_))
  | ((with_reducible refine x_for ?_))
  | ((with_reducible refine x_iR1 ?_))
  | ((with_reducible refine x_iL ?_))
  | ((with_reducible refine x_iZ ?_))
  | ((with_reducible refine x_yes ?_))
  | ((with_reducible refine' x_NIDt ?hq ?_); (case hq => assumption))
  | ((with_reducible refine' x_NIDf ?hq ?_); (case hq => assumption))
  | ((with_reducible refine' x_IIDf ?hq ?_); (case hq => assumption))
  | ((with_reducible refine' x_IIDt ?hq ?_); (case hq => assumption))
  | ((with_reducible refine' x_ixDs ?hd ?hq ?_); (case hd => assumption); (case hq => assumption))
  | ((with_reducible refine x_InSt ?h ?_); (case h => decide +kernel))
  | ((with_reducible refine x_InSf ?h ?_); (case h => decide +kernel))
  | ((with_reducible refine' x_notInI ?hq ?_); (case hq => walk_at "hk"))
  | ((with_reducible refine' x_inTt ?hq ?hv ?ha ?he ?_); (case hq => walk_at "hk"); (case hv => exact rfl); (case ha => exact rfl); (case he => decide +kernel))
  | ((with_reducible refine' x_inTf ?hq ?hv ?ha ?he ?_); (case hq => walk_at "hk"); (case hv => exact rfl); (case ha => exact rfl); (case he => decide +kernel))
  | ((with_reducible refine' x_slT ?hq ?hw ?_); (case hq => walk_at "hk"); (case hw => with_unfolding_all exact of_decide_eq_true rfl))
  | ((with_reducible refine' x_slL ?hq ?_); (case hq => walk_at "hk"))
  | ((with_reducible refine' x_catT ?hq ?hr ?n1 ?n2 ?hl ?_); (case hq => walk_at "hk"); (case hr => walk_at "hk"); (case n1 => exact List.cons_ne_nil _ _); (case n2 => exact List.cons_ne_nil _ _); (case hl => exact Nat.le_of_ble_eq_true rfl))
  | ((with_reducible refine x_bm ?_))
  | ((with_reducible refine x_lstRg ?_))
  | ((with_reducible refine x_rg1 ?_))
  | ((with_reducible refine And.intro ?h ?_); (case h => exact tyL (by assumption)))
  | dsimp only)
local macro_rules | `(tactic| walk_at "use") => `(tactic| fail)
local macro_rules | `(tactic| walk_at "rd") => `(tactic| repeat' (walk_at "rd1"))
local macro_rules | `(tactic| walk_at "ex") => `(tactic| first | exact Ex.refl _ | assumption | (refine' Ex.trans ?he (by assumption); (case he => walk_at "ex")))
local macro_rules | `(tactic| walk_at "rd1") => `(tactic| first
  | ((with_reducible refine x_iteDf ?h ?_); (case h => exact rfl))
  | ((with_reducible refine x_iteDt ?h ?_); (case h => exact rfl))
  | ((with_reducible refine x_iteNf ?h ?_); (case h => exact rfl))
  | ((with_reducible refine x_iteNt ?h ?_); (case h => exact rfl))
  | ((with_reducible refine x_isiI (r := true) ?h ?_); (case h => decide +kernel))
  | ((with_reducible refine x_isiI (r := false) ?h ?_); (case h => decide +kernel))
  | ((with_reducible refine x_isiS (r := true) ?h ?_); (case h => decide +kernel))
  | ((with_reducible refine x_isiS (r := false) ?h ?_); (case h => decide +kernel))
  | ((with_reducible refine x_isiB (r := true) ?h ?_); (case h => decide +kernel))
  | ((with_reducible refine x_isiB (r := false) ?h ?_); (case h => decide +kernel))
  | ((with_reducible refine' x_isiT (r := true) ?hp ?h ?_); (case hp => walk_at "hk"); (case h => decide +kernel))
  | ((with_reducible refine' x_isiT (r := false) ?hp ?h ?_); (case hp => walk_at "hk"); (case h => decide +kernel))
  | ((with_reducible refine' x_isiL (r := true) ?hp ?h ?_); (case hp => walk_at "hk"); (case h => decide +kernel))
  | ((with_reducible refine' x_isiL (r := false) ?hp ?h ?_); (case hp => walk_at "hk"); (case h => decide +kernel))
  | ((with_reducible refine' x_isi2L ?hp ?hl ?_); (case hp => walk_at "hk"); (case hl => walk_at "hk"))
  | ((with_reducible refine' x_isi2T ?hp ?hl ?_); (case hp => walk_at "hk"); (case hl => walk_at "hk"))
  | ((with_reducible refine' x_tupOfL ?hq ?_); (case hq => walk_at "hk"))
  | ((with_reducible refine' x_tupOfT ?hq ?_); (case hq => walk_at "hk"))
  | ((with_reducible refine x_lenS ?h ?_); (case h => exact Nat.le_of_ble_eq_true rfl))
  | ((with_reducible refine' x_all ?hq ?_); (case hq => walk_at "hk"))
  | with_reducible refine x_lenSet ?_)

theorem all_mk {l : PySem.W.OpenLaw} {w : World} {K : PySem.W.Frag} {h : Heap} {mg : Str → Option Value} {fa : Addr} (X : K.In h) (G : h.Ns mainGlobals mg) (hfa : mg "law" = some (.ref fa))
    {C_Script : Addr}
    {f_is_integer : Addr} {od_is_integer an_is_integer : Option Addr} {sl_is_integer : Array (Option Value)} {oc_is_integer kV_is_integer dc_is_integer pm_is_integer cd_is_integer ct_is_integer : Value}
    {f_is_files : Addr} {od_is_files an_is_files : Option Addr} {sl_is_files : Array (Option Value)} {oc_is_files kV_is_files dc_is_files pm_is_files cd_is_files ct_is_files : Value}
    {f_is_index : Addr} {od_is_index an_is_index : Option Addr} {sl_is_index : Array (Option Value)} {oc_is_index kV_is_index dc_is_index pm_is_index cd_is_index ct_is_index : Value}
    {f_is_part : Addr} {od_is_part an_is_part : Option Addr} {sl_is_part : Array (Option Value)} {oc_is_part kV_is_part dc_is_part pm_is_part cd_is_part ct_is_part : Value}
    {f_is_call : Addr} {od_is_call an_is_call : Option Addr} {sl_is_call : Array (Option Value)} {oc_is_call kV_is_call dc_is_call pm_is_call cd_is_call ct_is_call : Value}
    {f_turned : Addr} {od_turned an_turned : Option Addr} {sl_turned : Array (Option Value)} {oc_turned kV_turned dc_turned pm_turned cd_turned ct_turned : Value}
    {f_files_of : Addr} {od_files_of an_files_of : Option Addr} {sl_files_of : Array (Option Value)} {oc_files_of kV_files_of dc_files_of pm_files_of cd_files_of ct_files_of : Value}
    {f_Lbag : Addr} {od_Lbag an_Lbag : Option Addr} {sl_Lbag : Array (Option Value)} {oc_Lbag kV_Lbag dc_Lbag pm_Lbag cd_Lbag ct_Lbag : Value}
    {f_Ltake : Addr} {od_Ltake an_Ltake : Option Addr} {sl_Ltake : Array (Option Value)} {oc_Ltake kV_Ltake dc_Ltake pm_Ltake cd_Ltake ct_Ltake : Value}
    {f_Lone : Addr} {od_Lone an_Lone : Option Addr} {sl_Lone : Array (Option Value)} {oc_Lone kV_Lone dc_Lone pm_Lone cd_Lone ct_Lone : Value}
    {f_Lmixed : Addr} {od_Lmixed an_Lmixed : Option Addr} {sl_Lmixed : Array (Option Value)} {oc_Lmixed kV_Lmixed dc_Lmixed pm_Lmixed cd_Lmixed ct_Lmixed : Value}
    {f_Lnumber : Addr} {od_Lnumber an_Lnumber : Option Addr} {sl_Lnumber : Array (Option Value)} {oc_Lnumber kV_Lnumber dc_Lnumber pm_Lnumber cd_Lnumber ct_Lnumber : Value}
    {f_Ltwo : Addr} {od_Ltwo an_Ltwo : Option Addr} {sl_Ltwo : Array (Option Value)} {oc_Ltwo kV_Ltwo dc_Ltwo pm_Ltwo cd_Ltwo ct_Ltwo : Value}
    {f_Lcall : Addr} {od_Lcall an_Lcall : Option Addr} {sl_Lcall : Array (Option Value)} {oc_Lcall kV_Lcall dc_Lcall pm_Lcall cd_Lcall ct_Lcall : Value}
    {f_Lall_kinds : Addr} {od_Lall_kinds an_Lall_kinds : Option Addr} {sl_Lall_kinds : Array (Option Value)} {oc_Lall_kinds kV_Lall_kinds dc_Lall_kinds pm_Lall_kinds cd_Lall_kinds ct_Lall_kinds : Value}
    {f_Lis_whole : Addr} {od_Lis_whole an_Lis_whole : Option Addr} {sl_Lis_whole : Array (Option Value)} {oc_Lis_whole kV_Lis_whole dc_Lis_whole pm_Lis_whole cd_Lis_whole ct_Lis_whole : Value}
    {f_Lare_files : Addr} {od_Lare_files an_Lare_files : Option Addr} {sl_Lare_files : Array (Option Value)} {oc_Lare_files kV_Lare_files dc_Lare_files pm_Lare_files cd_Lare_files ct_Lare_files : Value}
    {f_Ldue : Addr} {od_Ldue an_Ldue : Option Addr} {sl_Ldue : Array (Option Value)} {oc_Ldue kV_Ldue dc_Ldue pm_Ldue cd_Ldue ct_Ldue : Value}
    {f_Lbent : Addr} {od_Lbent an_Lbent : Option Addr} {sl_Lbent : Array (Option Value)} {oc_Lbent kV_Lbent dc_Lbent pm_Lbent cd_Lbent ct_Lbent : Value}
    {f_law : Addr} {od_law an_law : Option Addr} {sl_law : Array (Option Value)} {oc_law kV_law dc_law pm_law cd_law ct_law : Value}
    {f_Script_init : Addr} {od_Script_init an_Script_init : Option Addr} {sl_Script_init : Array (Option Value)} {oc_Script_init kV_Script_init dc_Script_init pm_Script_init cd_Script_init ct_Script_init : Value}
    {q_PARTS : Addr} {qe_PARTS : Array DictEntry} {qn_PARTS : Nat}
    {t_PARTS_all : Tok}
    {t_PARTS_up : Tok}
    {t_PARTS_swap : Tok}
    {t_PARTS_wheel : Tok}
    {t_PARTS_about : Tok}
    {t_PARTS_front : Tok}
    {t_PARTS_halve : Tok}
    {t_PARTS_pair : Tok}
    {t_PARTS_others : Tok}
    {t_PARTS_fill : Tok}
    {q_UNDOING : Addr} {qe_UNDOING : Array DictEntry} {qn_UNDOING : Nat}
    {t_UNDOING_halve : Tok}
    {t_UNDOING_pair : Tok}
    {t_UNDOING_others : Tok}
    {t_UNDOING_fill : Tok}
    (g_Script : PySem.W.nsIn K mainGlobals "Script" = some (some (.ref C_Script)))
    (pg_Script : PySem.W.plainGet K C_Script Str.empty = true)
    (hd_Script : PySem.W.hasDictIn K C_Script = true)
    (po_Script : PySem.W.plainOver K C_Script = true)
    (sa_Script : PySem.W.findIn K (.ref C_Script) "__setattr__" = some (some (.builtin "object.__setattr__")))
    (ha_Script : PySem.W.findIn K (.ref C_Script) "__class__" = some (some (.builtin "object.__class__")))
    (hm_Script : PySem.W.mroIn K C_Script (.type "object") = some true)
    (mk_Script : PySem.W.makesIn K C_Script = true)
    (kc_Script : PySem.W.keepIn K (.ref C_Script) = true)
    (kI_Script : PySem.W.kitOne K (.ref C_Script) (.type "int") = some false)
    (kB_Script : PySem.W.kitOne K (.ref C_Script) (.type "bool") = some false)
    (kT_Script : PySem.W.kitOne K (.ref C_Script) (.type "tuple") = some false)
    (kL_Script : PySem.W.kitOne K (.ref C_Script) (.type "list") = some false)
    (kD_Script : PySem.W.kitOne K (.ref C_Script) (.type "dict") = some false)
    (kS_Script : PySem.W.kitOne K (.ref C_Script) (.type "str") = some false)
    (A_Script_width : PySem.W.findIn K (.ref C_Script) "width" = some none)
    (A_Script_held : PySem.W.findIn K (.ref C_Script) "held" = some none)
    (hgt : PySem.W.specialIn K (.builtin "object.__class__") "__get__" = some (some (.builtin "getset_descriptor.__get__")))
    (htk : PySem.W.takesIn K (.builtin "object.__class__") = some true)
    (a_is_integer : PySem.W.nsIn K mainGlobals "is_integer" = some (some (.ref f_is_integer)))
    (l_is_integer : K.lookup f_is_integer = some ⟨oc_is_integer, od_is_integer, .func (PySem.W.fnOf "is_integer" "is_integer" (defArgs s_is_integer) (defBody s_is_integer) (defScope s_is_integer) .none kV_is_integer dc_is_integer pm_is_integer an_is_integer cd_is_integer ct_is_integer), sl_is_integer⟩)
    (c_is_integer : PySem.W.codeIn K cd_is_integer "is_integer" = true)
    (k_is_integer : PySem.W.keepIn K (.ref f_is_integer) = true)
    (a_is_files : PySem.W.nsIn K mainGlobals "is_files" = some (some (.ref f_is_files)))
    (l_is_files : K.lookup f_is_files = some ⟨oc_is_files, od_is_files, .func (PySem.W.fnOf "is_files" "is_files" (defArgs s_is_files) (defBody s_is_files) (defScope s_is_files) .none kV_is_files dc_is_files pm_is_files an_is_files cd_is_files ct_is_files), sl_is_files⟩)
    (c_is_files : PySem.W.codeIn K cd_is_files "is_files" = true)
    (k_is_files : PySem.W.keepIn K (.ref f_is_files) = true)
    (a_is_index : PySem.W.nsIn K mainGlobals "is_index" = some (some (.ref f_is_index)))
    (l_is_index : K.lookup f_is_index = some ⟨oc_is_index, od_is_index, .func (PySem.W.fnOf "is_index" "is_index" (defArgs s_is_index) (defBody s_is_index) (defScope s_is_index) .none kV_is_index dc_is_index pm_is_index an_is_index cd_is_index ct_is_index), sl_is_index⟩)
    (c_is_index : PySem.W.codeIn K cd_is_index "is_index" = true)
    (k_is_index : PySem.W.keepIn K (.ref f_is_index) = true)
    (a_is_part : PySem.W.nsIn K mainGlobals "is_part" = some (some (.ref f_is_part)))
    (l_is_part : K.lookup f_is_part = some ⟨oc_is_part, od_is_part, .func (PySem.W.fnOf "is_part" "is_part" (defArgs s_is_part) (defBody s_is_part) (defScope s_is_part) .none kV_is_part dc_is_part pm_is_part an_is_part cd_is_part ct_is_part), sl_is_part⟩)
    (c_is_part : PySem.W.codeIn K cd_is_part "is_part" = true)
    (k_is_part : PySem.W.keepIn K (.ref f_is_part) = true)
    (a_is_call : PySem.W.nsIn K mainGlobals "is_call" = some (some (.ref f_is_call)))
    (l_is_call : K.lookup f_is_call = some ⟨oc_is_call, od_is_call, .func (PySem.W.fnOf "is_call" "is_call" (defArgs s_is_call) (defBody s_is_call) (defScope s_is_call) .none kV_is_call dc_is_call pm_is_call an_is_call cd_is_call ct_is_call), sl_is_call⟩)
    (c_is_call : PySem.W.codeIn K cd_is_call "is_call" = true)
    (k_is_call : PySem.W.keepIn K (.ref f_is_call) = true)
    (a_turned : PySem.W.nsIn K mainGlobals "turned" = some (some (.ref f_turned)))
    (l_turned : K.lookup f_turned = some ⟨oc_turned, od_turned, .func (PySem.W.fnOf "turned" "turned" (defArgs s_turned) (defBody s_turned) (defScope s_turned) .none kV_turned dc_turned pm_turned an_turned cd_turned ct_turned), sl_turned⟩)
    (c_turned : PySem.W.codeIn K cd_turned "turned" = true)
    (k_turned : PySem.W.keepIn K (.ref f_turned) = true)
    (a_files_of : PySem.W.nsIn K mainGlobals "files_of" = some (some (.ref f_files_of)))
    (l_files_of : K.lookup f_files_of = some ⟨oc_files_of, od_files_of, .func (PySem.W.fnOf "files_of" "files_of" (defArgs s_files_of) (defBody s_files_of) (defScope s_files_of) .none kV_files_of dc_files_of pm_files_of an_files_of cd_files_of ct_files_of), sl_files_of⟩)
    (c_files_of : PySem.W.codeIn K cd_files_of "files_of" = true)
    (k_files_of : PySem.W.keepIn K (.ref f_files_of) = true)
    (a_Lbag : PySem.W.nsIn K mainGlobals "_law_bag" = some (some (.ref f_Lbag)))
    (l_Lbag : K.lookup f_Lbag = some ⟨oc_Lbag, od_Lbag, .func (PySem.W.fnOf "_law_bag" "_law_bag" (defArgs s_Lbag) (defBody s_Lbag) (defScope s_Lbag) .none kV_Lbag dc_Lbag pm_Lbag an_Lbag cd_Lbag ct_Lbag), sl_Lbag⟩)
    (c_Lbag : PySem.W.codeIn K cd_Lbag "_law_bag" = true)
    (k_Lbag : PySem.W.keepIn K (.ref f_Lbag) = true)
    (a_Ltake : PySem.W.nsIn K mainGlobals "_law_take" = some (some (.ref f_Ltake)))
    (l_Ltake : K.lookup f_Ltake = some ⟨oc_Ltake, od_Ltake, .func (PySem.W.fnOf "_law_take" "_law_take" (defArgs s_Ltake) (defBody s_Ltake) (defScope s_Ltake) .none kV_Ltake dc_Ltake pm_Ltake an_Ltake cd_Ltake ct_Ltake), sl_Ltake⟩)
    (c_Ltake : PySem.W.codeIn K cd_Ltake "_law_take" = true)
    (k_Ltake : PySem.W.keepIn K (.ref f_Ltake) = true)
    (a_Lone : PySem.W.nsIn K mainGlobals "_law_one" = some (some (.ref f_Lone)))
    (l_Lone : K.lookup f_Lone = some ⟨oc_Lone, od_Lone, .func (PySem.W.fnOf "_law_one" "_law_one" (defArgs s_Lone) (defBody s_Lone) (defScope s_Lone) .none kV_Lone dc_Lone pm_Lone an_Lone cd_Lone ct_Lone), sl_Lone⟩)
    (c_Lone : PySem.W.codeIn K cd_Lone "_law_one" = true)
    (k_Lone : PySem.W.keepIn K (.ref f_Lone) = true)
    (a_Lmixed : PySem.W.nsIn K mainGlobals "_law_mixed" = some (some (.ref f_Lmixed)))
    (l_Lmixed : K.lookup f_Lmixed = some ⟨oc_Lmixed, od_Lmixed, .func (PySem.W.fnOf "_law_mixed" "_law_mixed" (defArgs s_Lmixed) (defBody s_Lmixed) (defScope s_Lmixed) .none kV_Lmixed dc_Lmixed pm_Lmixed an_Lmixed cd_Lmixed ct_Lmixed), sl_Lmixed⟩)
    (c_Lmixed : PySem.W.codeIn K cd_Lmixed "_law_mixed" = true)
    (k_Lmixed : PySem.W.keepIn K (.ref f_Lmixed) = true)
    (a_Lnumber : PySem.W.nsIn K mainGlobals "_law_number" = some (some (.ref f_Lnumber)))
    (l_Lnumber : K.lookup f_Lnumber = some ⟨oc_Lnumber, od_Lnumber, .func (PySem.W.fnOf "_law_number" "_law_number" (defArgs s_Lnumber) (defBody s_Lnumber) (defScope s_Lnumber) .none kV_Lnumber dc_Lnumber pm_Lnumber an_Lnumber cd_Lnumber ct_Lnumber), sl_Lnumber⟩)
    (c_Lnumber : PySem.W.codeIn K cd_Lnumber "_law_number" = true)
    (k_Lnumber : PySem.W.keepIn K (.ref f_Lnumber) = true)
    (a_Ltwo : PySem.W.nsIn K mainGlobals "_law_two" = some (some (.ref f_Ltwo)))
    (l_Ltwo : K.lookup f_Ltwo = some ⟨oc_Ltwo, od_Ltwo, .func (PySem.W.fnOf "_law_two" "_law_two" (defArgs s_Ltwo) (defBody s_Ltwo) (defScope s_Ltwo) .none kV_Ltwo dc_Ltwo pm_Ltwo an_Ltwo cd_Ltwo ct_Ltwo), sl_Ltwo⟩)
    (c_Ltwo : PySem.W.codeIn K cd_Ltwo "_law_two" = true)
    (k_Ltwo : PySem.W.keepIn K (.ref f_Ltwo) = true)
    (a_Lcall : PySem.W.nsIn K mainGlobals "_law_call" = some (some (.ref f_Lcall)))
    (l_Lcall : K.lookup f_Lcall = some ⟨oc_Lcall, od_Lcall, .func (PySem.W.fnOf "_law_call" "_law_call" (defArgs s_Lcall) (defBody s_Lcall) (defScope s_Lcall) .none kV_Lcall dc_Lcall pm_Lcall an_Lcall cd_Lcall ct_Lcall), sl_Lcall⟩)
    (c_Lcall : PySem.W.codeIn K cd_Lcall "_law_call" = true)
    (k_Lcall : PySem.W.keepIn K (.ref f_Lcall) = true)
    (a_Lall_kinds : PySem.W.nsIn K mainGlobals "_law_all_kinds" = some (some (.ref f_Lall_kinds)))
    (l_Lall_kinds : K.lookup f_Lall_kinds = some ⟨oc_Lall_kinds, od_Lall_kinds, .func (PySem.W.fnOf "_law_all_kinds" "_law_all_kinds" (defArgs s_Lall_kinds) (defBody s_Lall_kinds) (defScope s_Lall_kinds) .none kV_Lall_kinds dc_Lall_kinds pm_Lall_kinds an_Lall_kinds cd_Lall_kinds ct_Lall_kinds), sl_Lall_kinds⟩)
    (c_Lall_kinds : PySem.W.codeIn K cd_Lall_kinds "_law_all_kinds" = true)
    (k_Lall_kinds : PySem.W.keepIn K (.ref f_Lall_kinds) = true)
    (a_Lis_whole : PySem.W.nsIn K mainGlobals "_law_is_whole" = some (some (.ref f_Lis_whole)))
    (l_Lis_whole : K.lookup f_Lis_whole = some ⟨oc_Lis_whole, od_Lis_whole, .func (PySem.W.fnOf "_law_is_whole" "_law_is_whole" (defArgs s_Lis_whole) (defBody s_Lis_whole) (defScope s_Lis_whole) .none kV_Lis_whole dc_Lis_whole pm_Lis_whole an_Lis_whole cd_Lis_whole ct_Lis_whole), sl_Lis_whole⟩)
    (c_Lis_whole : PySem.W.codeIn K cd_Lis_whole "_law_is_whole" = true)
    (k_Lis_whole : PySem.W.keepIn K (.ref f_Lis_whole) = true)
    (a_Lare_files : PySem.W.nsIn K mainGlobals "_law_are_files" = some (some (.ref f_Lare_files)))
    (l_Lare_files : K.lookup f_Lare_files = some ⟨oc_Lare_files, od_Lare_files, .func (PySem.W.fnOf "_law_are_files" "_law_are_files" (defArgs s_Lare_files) (defBody s_Lare_files) (defScope s_Lare_files) .none kV_Lare_files dc_Lare_files pm_Lare_files an_Lare_files cd_Lare_files ct_Lare_files), sl_Lare_files⟩)
    (c_Lare_files : PySem.W.codeIn K cd_Lare_files "_law_are_files" = true)
    (k_Lare_files : PySem.W.keepIn K (.ref f_Lare_files) = true)
    (a_Ldue : PySem.W.nsIn K mainGlobals "_law_due" = some (some (.ref f_Ldue)))
    (l_Ldue : K.lookup f_Ldue = some ⟨oc_Ldue, od_Ldue, .func (PySem.W.fnOf "_law_due" "_law_due" (defArgs s_Ldue) (defBody s_Ldue) (defScope s_Ldue) .none kV_Ldue dc_Ldue pm_Ldue an_Ldue cd_Ldue ct_Ldue), sl_Ldue⟩)
    (c_Ldue : PySem.W.codeIn K cd_Ldue "_law_due" = true)
    (k_Ldue : PySem.W.keepIn K (.ref f_Ldue) = true)
    (a_Lbent : PySem.W.nsIn K mainGlobals "_law_bent" = some (some (.ref f_Lbent)))
    (l_Lbent : K.lookup f_Lbent = some ⟨oc_Lbent, od_Lbent, .func (PySem.W.fnOf "_law_bent" "_law_bent" (defArgs s_Lbent) (defBody s_Lbent) (defScope s_Lbent) .none kV_Lbent dc_Lbent pm_Lbent an_Lbent cd_Lbent ct_Lbent), sl_Lbent⟩)
    (c_Lbent : PySem.W.codeIn K cd_Lbent "_law_bent" = true)
    (k_Lbent : PySem.W.keepIn K (.ref f_Lbent) = true)
    (a_law : PySem.W.nsIn K mainGlobals "law" = some (some (.ref f_law)))
    (l_law : K.lookup f_law = some ⟨oc_law, od_law, .func (PySem.W.fnOf "law" "law" (defArgs s_law) (defBody s_law) (defScope s_law) .none kV_law dc_law pm_law an_law cd_law ct_law), sl_law⟩)
    (c_law : PySem.W.codeIn K cd_law "law" = true)
    (k_law : PySem.W.keepIn K (.ref f_law) = true)
    (e_Script_init : PySem.W.findIn K (.ref C_Script) "__init__" = some (some (.ref f_Script_init)))
    (i_Script_init : PySem.W.isFn K (.ref f_Script_init) = true)
    (l_Script_init : K.lookup f_Script_init = some ⟨oc_Script_init, od_Script_init, .func (PySem.W.fnOf "__init__" "Script.__init__" (defArgs s_Script_init) (defBody s_Script_init) (defScope s_Script_init) .none kV_Script_init dc_Script_init pm_Script_init an_Script_init cd_Script_init ct_Script_init), sl_Script_init⟩)
    (c_Script_init : PySem.W.codeIn K cd_Script_init "Script.__init__" = true)
    (k_Script_init : PySem.W.keepIn K (.ref f_Script_init) = true)
    (a_PARTS : PySem.W.nsIn K mainGlobals "PARTS" = some (some (.ref q_PARTS)))
    (l_PARTS : K.lookup q_PARTS = some ⟨.type "dict", none, .dict qe_PARTS qn_PARTS, #[]⟩)
    (v_PARTS_all : PySem.W.nsIn K q_PARTS "all" = some (some (.str "k" t_PARTS_all)))
    (v_PARTS_up : PySem.W.nsIn K q_PARTS "up" = some (some (.str "fk" t_PARTS_up)))
    (v_PARTS_swap : PySem.W.nsIn K q_PARTS "swap" = some (some (.str "ff" t_PARTS_swap)))
    (v_PARTS_wheel : PySem.W.nsIn K q_PARTS "wheel" = some (some (.str "ffk" t_PARTS_wheel)))
    (v_PARTS_about : PySem.W.nsIn K q_PARTS "about" = some (some (.str "" t_PARTS_about)))
    (v_PARTS_front : PySem.W.nsIn K q_PARTS "front" = some (some (.str "ff" t_PARTS_front)))
    (v_PARTS_halve : PySem.W.nsIn K q_PARTS "halve" = some (some (.str "" t_PARTS_halve)))
    (v_PARTS_pair : PySem.W.nsIn K q_PARTS "pair" = some (some (.str "" t_PARTS_pair)))
    (v_PARTS_others : PySem.W.nsIn K q_PARTS "others" = some (some (.str "" t_PARTS_others)))
    (v_PARTS_fill : PySem.W.nsIn K q_PARTS "fill" = some (some (.str "" t_PARTS_fill)))
    (o_PARTS_0 : PySem.W.nsIn K q_PARTS "" = some none)
    (o_PARTS_1 : PySem.W.nsIn K q_PARTS "backs" = some none)
    (o_PARTS_2 : PySem.W.nsIn K q_PARTS "ups" = some none)
    (o_PARTS_3 : PySem.W.nsIn K q_PARTS "round" = some none)
    (o_PARTS_4 : PySem.W.nsIn K q_PARTS "Swap" = some none)
    (o_PARTS_5 : PySem.W.nsIn K q_PARTS "halv" = some none)
    (o_PARTS_6 : PySem.W.nsIn K q_PARTS "All" = some none)
    (o_PARTS_7 : PySem.W.nsIn K q_PARTS "turn" = some none)
    (li_PARTS : PySem.W.KeysLit w.params qe_PARTS.toList)
    (lo_PARTS : (q_PARTS == sysModules) = false)
    (a_UNDOING : PySem.W.nsIn K mainGlobals "UNDOING" = some (some (.ref q_UNDOING)))
    (l_UNDOING : K.lookup q_UNDOING = some ⟨.type "dict", none, .dict qe_UNDOING qn_UNDOING, #[]⟩)
    (v_UNDOING_halve : PySem.W.nsIn K q_UNDOING "halve" = some (some (.str "pair" t_UNDOING_halve)))
    (v_UNDOING_pair : PySem.W.nsIn K q_UNDOING "pair" = some (some (.str "halve" t_UNDOING_pair)))
    (v_UNDOING_others : PySem.W.nsIn K q_UNDOING "others" = some (some (.str "fill" t_UNDOING_others)))
    (v_UNDOING_fill : PySem.W.nsIn K q_UNDOING "fill" = some (some (.str "others" t_UNDOING_fill)))
    (o_UNDOING_all : PySem.W.nsIn K q_UNDOING "all" = some none)
    (o_UNDOING_up : PySem.W.nsIn K q_UNDOING "up" = some none)
    (o_UNDOING_swap : PySem.W.nsIn K q_UNDOING "swap" = some none)
    (o_UNDOING_wheel : PySem.W.nsIn K q_UNDOING "wheel" = some none)
    (o_UNDOING_about : PySem.W.nsIn K q_UNDOING "about" = some none)
    (o_UNDOING_front : PySem.W.nsIn K q_UNDOING "front" = some none)
    (li_UNDOING : PySem.W.KeysLit w.params qe_UNDOING.toList)
    (lo_UNDOING : (q_UNDOING == sysModules) = false)
    (z_len : PySem.W.nsIn K mainGlobals "len" = some none)
    (z_abs : PySem.W.nsIn K mainGlobals "abs" = some none)
    (z_int : PySem.W.nsIn K mainGlobals "int" = some none)
    (z_sorted : PySem.W.nsIn K mainGlobals "sorted" = some none)
    (z_list : PySem.W.nsIn K mainGlobals "list" = some none)
    (z_tuple : PySem.W.nsIn K mainGlobals "tuple" = some none)
    (z_range : PySem.W.nsIn K mainGlobals "range" = some none)
    (z_zip : PySem.W.nsIn K mainGlobals "zip" = some none)
    (z_all : PySem.W.nsIn K mainGlobals "all" = some none)
    (z_set : PySem.W.nsIn K mainGlobals "set" = some none)
    (z_isinstance : PySem.W.nsIn K mainGlobals "isinstance" = some none)
    (z_str : PySem.W.nsIn K mainGlobals "str" = some none)
    (z_bool : PySem.W.nsIn K mainGlobals "bool" = some none)
    (z_repr : PySem.W.nsIn K mainGlobals "repr" = some none)
    (z_reversed : PySem.W.nsIn K mainGlobals "reversed" = some none) :
    ∃ fd : FuncData, (∀ (s : Shared) (v : Value), BindsTo s fd ⟨[v], []⟩ [("_law_script", v)]) ∧ ∀ base : Heap, K.In base → base.Ns mainGlobals mg → Ow.FnG l.prog w K mg base CX0 7 fa fd ["_law_script"] (sp_law K) := by
  have e := hfa.symm.trans (PySem.W.mg_of X G a_law)
  cases e
  have T : Txt K w mg { c_Script := C_Script, a_is_integer := f_is_integer, fd_is_integer := PySem.W.fnOf "is_integer" "is_integer" (defArgs s_is_integer) (defBody s_is_integer) (defScope s_is_integer) .none kV_is_integer dc_is_integer pm_is_integer an_is_integer cd_is_integer ct_is_integer, a_is_files := f_is_files, fd_is_files := PySem.W.fnOf "is_files" "is_files" (defArgs s_is_files) (defBody s_is_files) (defScope s_is_files) .none kV_is_files dc_is_files pm_is_files an_is_files cd_is_files ct_is_files, a_is_index := f_is_index, fd_is_index := PySem.W.fnOf "is_index" "is_index" (defArgs s_is_index) (defBody s_is_index) (defScope s_is_index) .none kV_is_index dc_is_index pm_is_index an_is_index cd_is_index ct_is_index, a_is_part := f_is_part, fd_is_part := PySem.W.fnOf "is_part" "is_part" (defArgs s_is_part) (defBody s_is_part) (defScope s_is_part) .none kV_is_part dc_is_part pm_is_part an_is_part cd_is_part ct_is_part, a_is_call := f_is_call, fd_is_call := PySem.W.fnOf "is_call" "is_call" (defArgs s_is_call) (defBody s_is_call) (defScope s_is_call) .none kV_is_call dc_is_call pm_is_call an_is_call cd_is_call ct_is_call, a_turned := f_turned, fd_turned := PySem.W.fnOf "turned" "turned" (defArgs s_turned) (defBody s_turned) (defScope s_turned) .none kV_turned dc_turned pm_turned an_turned cd_turned ct_turned, a_files_of := f_files_of, fd_files_of := PySem.W.fnOf "files_of" "files_of" (defArgs s_files_of) (defBody s_files_of) (defScope s_files_of) .none kV_files_of dc_files_of pm_files_of an_files_of cd_files_of ct_files_of, a_Lbag := f_Lbag, fd_Lbag := PySem.W.fnOf "_law_bag" "_law_bag" (defArgs s_Lbag) (defBody s_Lbag) (defScope s_Lbag) .none kV_Lbag dc_Lbag pm_Lbag an_Lbag cd_Lbag ct_Lbag, a_Ltake := f_Ltake, fd_Ltake := PySem.W.fnOf "_law_take" "_law_take" (defArgs s_Ltake) (defBody s_Ltake) (defScope s_Ltake) .none kV_Ltake dc_Ltake pm_Ltake an_Ltake cd_Ltake ct_Ltake, a_Lone := f_Lone, fd_Lone := PySem.W.fnOf "_law_one" "_law_one" (defArgs s_Lone) (defBody s_Lone) (defScope s_Lone) .none kV_Lone dc_Lone pm_Lone an_Lone cd_Lone ct_Lone, a_Lmixed := f_Lmixed, fd_Lmixed := PySem.W.fnOf "_law_mixed" "_law_mixed" (defArgs s_Lmixed) (defBody s_Lmixed) (defScope s_Lmixed) .none kV_Lmixed dc_Lmixed pm_Lmixed an_Lmixed cd_Lmixed ct_Lmixed, a_Lnumber := f_Lnumber, fd_Lnumber := PySem.W.fnOf "_law_number" "_law_number" (defArgs s_Lnumber) (defBody s_Lnumber) (defScope s_Lnumber) .none kV_Lnumber dc_Lnumber pm_Lnumber an_Lnumber cd_Lnumber ct_Lnumber, a_Ltwo := f_Ltwo, fd_Ltwo := PySem.W.fnOf "_law_two" "_law_two" (defArgs s_Ltwo) (defBody s_Ltwo) (defScope s_Ltwo) .none kV_Ltwo dc_Ltwo pm_Ltwo an_Ltwo cd_Ltwo ct_Ltwo, a_Lcall := f_Lcall, fd_Lcall := PySem.W.fnOf "_law_call" "_law_call" (defArgs s_Lcall) (defBody s_Lcall) (defScope s_Lcall) .none kV_Lcall dc_Lcall pm_Lcall an_Lcall cd_Lcall ct_Lcall, a_Lall_kinds := f_Lall_kinds, fd_Lall_kinds := PySem.W.fnOf "_law_all_kinds" "_law_all_kinds" (defArgs s_Lall_kinds) (defBody s_Lall_kinds) (defScope s_Lall_kinds) .none kV_Lall_kinds dc_Lall_kinds pm_Lall_kinds an_Lall_kinds cd_Lall_kinds ct_Lall_kinds, a_Lis_whole := f_Lis_whole, fd_Lis_whole := PySem.W.fnOf "_law_is_whole" "_law_is_whole" (defArgs s_Lis_whole) (defBody s_Lis_whole) (defScope s_Lis_whole) .none kV_Lis_whole dc_Lis_whole pm_Lis_whole an_Lis_whole cd_Lis_whole ct_Lis_whole, a_Lare_files := f_Lare_files, fd_Lare_files := PySem.W.fnOf "_law_are_files" "_law_are_files" (defArgs s_Lare_files) (defBody s_Lare_files) (defScope s_Lare_files) .none kV_Lare_files dc_Lare_files pm_Lare_files an_Lare_files cd_Lare_files ct_Lare_files, a_Ldue := f_Ldue, fd_Ldue := PySem.W.fnOf "_law_due" "_law_due" (defArgs s_Ldue) (defBody s_Ldue) (defScope s_Ldue) .none kV_Ldue dc_Ldue pm_Ldue an_Ldue cd_Ldue ct_Ldue, a_Lbent := f_Lbent, fd_Lbent := PySem.W.fnOf "_law_bent" "_law_bent" (defArgs s_Lbent) (defBody s_Lbent) (defScope s_Lbent) .none kV_Lbent dc_Lbent pm_Lbent an_Lbent cd_Lbent ct_Lbent, a_law := fa, fd_law := PySem.W.fnOf "law" "law" (defArgs s_law) (defBody s_law) (defScope s_law) .none kV_law dc_law pm_law an_law cd_law ct_law, a_Script_init := f_Script_init, fd_Script_init := PySem.W.fnOf "__init__" "Script.__init__" (defArgs s_Script_init) (defBody s_Script_init) (defScope s_Script_init) .none kV_Script_init dc_Script_init pm_Script_init an_Script_init cd_Script_init ct_Script_init, d_PARTS := q_PARTS, es_PARTS := qe_PARTS, n_PARTS := qn_PARTS, d_UNDOING := q_UNDOING, es_UNDOING := qe_UNDOING, n_UNDOING := qn_UNDOING } := { m_Script := PySem.W.mg_of X G g_Script, t_Script := ⟨⟨pg_Script, hd_Script, po_Script, sa_Script⟩, ha_Script, hgt, htk, hm_Script, kI_Script, kB_Script, kT_Script, kL_Script, kD_Script, kS_Script⟩, M_Script := ⟨mk_Script, e_Script_init, i_Script_init, kc_Script⟩, A_Script_width := A_Script_width, A_Script_held := A_Script_held, m_is_integer := PySem.W.mg_of X G a_is_integer, F_is_integer := fun_mk (st := s_is_integer) l_is_integer c_is_integer k_is_integer, k_is_integer := k_is_integer, b_is_integer := (fun_mk (st := s_is_integer) l_is_integer c_is_integer k_is_integer).binds (ps := ["thing"]) fun _ _ _ _ _ _ us hl => match us, hl with | [_], _ => rfl, m_is_files := PySem.W.mg_of X G a_is_files, F_is_files := fun_mk (st := s_is_files) l_is_files c_is_files k_is_files, k_is_files := k_is_files, b_is_files := (fun_mk (st := s_is_files) l_is_files c_is_files k_is_files).binds (ps := ["thing"]) fun _ _ _ _ _ _ us hl => match us, hl with | [_], _ => rfl, m_is_index := PySem.W.mg_of X G a_is_index, F_is_index := fun_mk (st := s_is_index) l_is_index c_is_index k_is_index, k_is_index := k_is_index, b_is_index := (fun_mk (st := s_is_index) l_is_index c_is_index k_is_index).binds (ps := ["thing", "many"]) fun _ _ _ _ _ _ us hl => match us, hl with | [_, _], _ => rfl, m_is_part := PySem.W.mg_of X G a_is_part, F_is_part := fun_mk (st := s_is_part) l_is_part c_is_part k_is_part, k_is_part := k_is_part, b_is_part := (fun_mk (st := s_is_part) l_is_part c_is_part k_is_part).binds (ps := ["files", "part", "item"]) fun _ _ _ _ _ _ us hl => match us, hl with | [_, _, _], _ => rfl, m_is_call := PySem.W.mg_of X G a_is_call, F_is_call := fun_mk (st := s_is_call) l_is_call c_is_call k_is_call, k_is_call := k_is_call, b_is_call := (fun_mk (st := s_is_call) l_is_call c_is_call k_is_call).binds (ps := ["files", "thing"]) fun _ _ _ _ _ _ us hl => match us, hl with | [_, _], _ => rfl, m_turned := PySem.W.mg_of X G a_turned, F_turned := fun_mk (st := s_turned) l_turned c_turned k_turned, k_turned := k_turned, b_turned := (fun_mk (st := s_turned) l_turned c_turned k_turned).binds (ps := ["call"]) fun _ _ _ _ _ _ us hl => match us, hl with | [_], _ => rfl, m_files_of := PySem.W.mg_of X G a_files_of, F_files_of := fun_mk (st := s_files_of) l_files_of c_files_of k_files_of, k_files_of := k_files_of, b_files_of := (fun_mk (st := s_files_of) l_files_of c_files_of k_files_of).binds (ps := ["call"]) fun _ _ _ _ _ _ us hl => match us, hl with | [_], _ => rfl, m_Lbag := PySem.W.mg_of X G a_Lbag, F_Lbag := fun_mk (st := s_Lbag) l_Lbag c_Lbag k_Lbag, k_Lbag := k_Lbag, b_Lbag := (fun_mk (st := s_Lbag) l_Lbag c_Lbag k_Lbag).binds (ps := ["_law_script"]) fun _ _ _ _ _ _ us hl => match us, hl with | [_], _ => rfl, m_Ltake := PySem.W.mg_of X G a_Ltake, F_Ltake := fun_mk (st := s_Ltake) l_Ltake c_Ltake k_Ltake, k_Ltake := k_Ltake, b_Ltake := (fun_mk (st := s_Ltake) l_Ltake c_Ltake k_Ltake).binds (ps := ["_law_bag_here", "_law_many"]) fun _ _ _ _ _ _ us hl => match us, hl with | [_, _], _ => rfl, m_Lone := PySem.W.mg_of X G a_Lone, F_Lone := fun_mk (st := s_Lone) l_Lone c_Lone k_Lone, k_Lone := k_Lone, b_Lone := (fun_mk (st := s_Lone) l_Lone c_Lone k_Lone).binds (ps := ["_law_bag_here", "_law_some"]) fun _ _ _ _ _ _ us hl => match us, hl with | [_, _], _ => rfl, m_Lmixed := PySem.W.mg_of X G a_Lmixed, F_Lmixed := fun_mk (st := s_Lmixed) l_Lmixed c_Lmixed k_Lmixed, k_Lmixed := k_Lmixed, b_Lmixed := (fun_mk (st := s_Lmixed) l_Lmixed c_Lmixed k_Lmixed).binds (ps := ["_law_bag_here", "_law_things"]) fun _ _ _ _ _ _ us hl => match us, hl with | [_, _], _ => rfl, m_Lnumber := PySem.W.mg_of X G a_Lnumber, F_Lnumber := fun_mk (st := s_Lnumber) l_Lnumber c_Lnumber k_Lnumber, k_Lnumber := k_Lnumber, b_Lnumber := (fun_mk (st := s_Lnumber) l_Lnumber c_Lnumber k_Lnumber).binds (ps := ["_law_bag_here", "_law_most"]) fun _ _ _ _ _ _ us hl => match us, hl with | [_, _], _ => rfl, m_Ltwo := PySem.W.mg_of X G a_Ltwo, F_Ltwo := fun_mk (st := s_Ltwo) l_Ltwo c_Ltwo k_Ltwo, k_Ltwo := k_Ltwo, b_Ltwo := (fun_mk (st := s_Ltwo) l_Ltwo c_Ltwo k_Ltwo).binds (ps := ["_law_bag_here", "_law_files"]) fun _ _ _ _ _ _ us hl => match us, hl with | [_, _], _ => rfl, m_Lcall := PySem.W.mg_of X G a_Lcall, F_Lcall := fun_mk (st := s_Lcall) l_Lcall c_Lcall k_Lcall, k_Lcall := k_Lcall, b_Lcall := (fun_mk (st := s_Lcall) l_Lcall c_Lcall k_Lcall).binds (ps := ["_law_bag_here", "_law_files", "_law_kinds", "_law_most"]) fun _ _ _ _ _ _ us hl => match us, hl with | [_, _, _, _], _ => rfl, m_Lall_kinds := PySem.W.mg_of X G a_Lall_kinds, F_Lall_kinds := fun_mk (st := s_Lall_kinds) l_Lall_kinds c_Lall_kinds k_Lall_kinds, k_Lall_kinds := k_Lall_kinds, b_Lall_kinds := (fun_mk (st := s_Lall_kinds) l_Lall_kinds c_Lall_kinds k_Lall_kinds).binds (ps := []) fun _ _ _ _ _ _ us hl => match us, hl with | [], _ => rfl, m_Lis_whole := PySem.W.mg_of X G a_Lis_whole, F_Lis_whole := fun_mk (st := s_Lis_whole) l_Lis_whole c_Lis_whole k_Lis_whole, k_Lis_whole := k_Lis_whole, b_Lis_whole := (fun_mk (st := s_Lis_whole) l_Lis_whole c_Lis_whole k_Lis_whole).binds (ps := ["_law_thing"]) fun _ _ _ _ _ _ us hl => match us, hl with | [_], _ => rfl, m_Lare_files := PySem.W.mg_of X G a_Lare_files, F_Lare_files := fun_mk (st := s_Lare_files) l_Lare_files c_Lare_files k_Lare_files, k_Lare_files := k_Lare_files, b_Lare_files := (fun_mk (st := s_Lare_files) l_Lare_files c_Lare_files k_Lare_files).binds (ps := ["_law_files", "_law_some"]) fun _ _ _ _ _ _ us hl => match us, hl with | [_, _], _ => rfl, m_Ldue := PySem.W.mg_of X G a_Ldue, F_Ldue := fun_mk (st := s_Ldue) l_Ldue c_Ldue k_Ldue, k_Ldue := k_Ldue, b_Ldue := (fun_mk (st := s_Ldue) l_Ldue c_Ldue k_Ldue).binds (ps := ["_law_files", "_law_thing"]) fun _ _ _ _ _ _ us hl => match us, hl with | [_, _], _ => rfl, m_Lbent := PySem.W.mg_of X G a_Lbent, F_Lbent := fun_mk (st := s_Lbent) l_Lbent c_Lbent k_Lbent, k_Lbent := k_Lbent, b_Lbent := (fun_mk (st := s_Lbent) l_Lbent c_Lbent k_Lbent).binds (ps := ["_law_bag_here", "_law_call_here"]) fun _ _ _ _ _ _ us hl => match us, hl with | [_, _], _ => rfl, m_law := PySem.W.mg_of X G a_law, F_law := fun_mk (st := s_law) l_law c_law k_law, k_law := k_law, b_law := (fun_mk (st := s_law) l_law c_law k_law).binds (ps := ["_law_script"]) fun _ _ _ _ _ _ us hl => match us, hl with | [_], _ => rfl, F_Script_init := fun_mk (st := s_Script_init) l_Script_init c_Script_init k_Script_init, k_Script_init := k_Script_init, b_Script_init := (fun_mk (st := s_Script_init) l_Script_init c_Script_init k_Script_init).binds (ps := ["self", "files", "calls"]) fun _ _ _ _ _ _ us hl => match us, hl with | [_, _, _], _ => rfl, g_PARTS := PySem.W.mg_of X G a_PARTS, d_PARTS := ⟨l_PARTS, li_PARTS, lo_PARTS⟩, v_PARTS_all := ⟨_, v_PARTS_all⟩, v_PARTS_up := ⟨_, v_PARTS_up⟩, v_PARTS_swap := ⟨_, v_PARTS_swap⟩, v_PARTS_wheel := ⟨_, v_PARTS_wheel⟩, v_PARTS_about := ⟨_, v_PARTS_about⟩, v_PARTS_front := ⟨_, v_PARTS_front⟩, v_PARTS_halve := ⟨_, v_PARTS_halve⟩, v_PARTS_pair := ⟨_, v_PARTS_pair⟩, v_PARTS_others := ⟨_, v_PARTS_others⟩, v_PARTS_fill := ⟨_, v_PARTS_fill⟩, o_PARTS_0 := o_PARTS_0, o_PARTS_1 := o_PARTS_1, o_PARTS_2 := o_PARTS_2, o_PARTS_3 := o_PARTS_3, o_PARTS_4 := o_PARTS_4, o_PARTS_5 := o_PARTS_5, o_PARTS_6 := o_PARTS_6, o_PARTS_7 := o_PARTS_7, g_UNDOING := PySem.W.mg_of X G a_UNDOING, d_UNDOING := ⟨l_UNDOING, li_UNDOING, lo_UNDOING⟩, v_UNDOING_halve := ⟨_, v_UNDOING_halve⟩, v_UNDOING_pair := ⟨_, v_UNDOING_pair⟩, v_UNDOING_others := ⟨_, v_UNDOING_others⟩, v_UNDOING_fill := ⟨_, v_UNDOING_fill⟩, o_UNDOING_all := o_UNDOING_all, o_UNDOING_up := o_UNDOING_up, o_UNDOING_swap := o_UNDOING_swap, o_UNDOING_wheel := o_UNDOING_wheel, o_UNDOING_about := o_UNDOING_about, o_UNDOING_front := o_UNDOING_front, n_len := PySem.W.mg_none_of X G z_len, n_abs := PySem.W.mg_none_of X G z_abs, n_int := PySem.W.mg_none_of X G z_int, n_sorted := PySem.W.mg_none_of X G z_sorted, n_list := PySem.W.mg_none_of X G z_list, n_tuple := PySem.W.mg_none_of X G z_tuple, n_range := PySem.W.mg_none_of X G z_range, n_zip := PySem.W.mg_none_of X G z_zip, n_all := PySem.W.mg_none_of X G z_all, n_set := PySem.W.mg_none_of X G z_set, n_isinstance := PySem.W.mg_none_of X G z_isinstance, n_str := PySem.W.mg_none_of X G z_str, n_bool := PySem.W.mg_none_of X G z_bool, n_repr := PySem.W.mg_none_of X G z_repr, n_reversed := PySem.W.mg_none_of X G z_reversed }
  exact ⟨_, fun s v => .of_eq rfl, fun base _ _ => ok_law T⟩
theorem walk {l : PySem.W.OpenLaw} {q : Program} {loose : List Str} {XP : (Str → Option Value) → Heap → Prop} {YP : World → Heap → Prop} {d : DefRec} {K : Params → PySem.W.Frag} (hn : l.most = some 63) (hdf : d.params.defaults = [])
    (hY : ∀ (w : World) (h : Heap), YP w h → (K w.params).In h)
    (F : ∀ (w : World) (mg : Str → Option Value) (fa : Addr) (h : Heap), (K w.params).In h → h.Ns mainGlobals mg → mg d.name = some (.ref fa) →
      ∃ fd : FuncData, (∀ (s : Shared) (u : Value), BindsTo s fd ⟨[u], []⟩ [("_law_script", u)]) ∧ ∀ base : Heap, (K w.params).In base → base.Ns mainGlobals mg → Ow.FnG l.prog w (K w.params) mg base CX0 7 fa fd ["_law_script"] (sp_law (K w.params))) :
    PySem.W.WalkO q loose XP YP l.row.toRowW d [] (fun f vs => PySem.call f vs) :=
  Ow.walk_G (n := 63) (k := 7) (x := "_law_script") (sp := fun K => sp_law K) hn (by decide) hdf ⟨rfl, by decide, by decide⟩ hY F (fun K H a ns hl hS => law_start hl hS)
end My
open PySem PySem.W PyProof.Rows in
set_option maxRecDepth 100000 in
set_option maxHeartbeats 0 in
theorem PySem.Challenge.cw_pupilpairs_k12_calls_judged_holds : PySem.Challenge.rw_pupilpairs_k12_calls_judged.Holds := by
  w_on; o_law; k_head; (case hw => w_witness2)
  k_fill
  refine My.walk (l := PySem.Challenge.rw_pupilpairs_k12_calls_judged) rfl rfl (fun w h Y => PySem.W.kIn_of Y) ?F
  case F =>
    intro w mg fa h KX G hmg
    refine' My.all_mk KX G hmg ?g_Script ?pg_Script ?hd_Script ?po_Script ?sa_Script ?ha_Script ?hm_Script ?mk_Script ?kc_Script ?kI_Script ?kB_Script ?kT_Script ?kL_Script ?kD_Script ?kS_Script ?A_Script_width ?A_Script_held ?hgt ?htk ?a_is_integer ?l_is_integer ?c_is_integer ?k_is_integer ?a_is_files ?l_is_files ?c_is_files ?k_is_files ?a_is_index ?l_is_index ?c_is_index ?k_is_index ?a_is_part ?l_is_part ?c_is_part ?k_is_part ?a_is_call ?l_is_call ?c_is_call ?k_is_call ?a_turned ?l_turned ?c_turned ?k_turned ?a_files_of ?l_files_of ?c_files_of ?k_files_of ?a_Lbag ?l_Lbag ?c_Lbag ?k_Lbag ?a_Ltake ?l_Ltake ?c_Ltake ?k_Ltake ?a_Lone ?l_Lone ?c_Lone ?k_Lone ?a_Lmixed ?l_Lmixed ?c_Lmixed ?k_Lmixed ?a_Lnumber ?l_Lnumber ?c_Lnumber ?k_Lnumber ?a_Ltwo ?l_Ltwo ?c_Ltwo ?k_Ltwo ?a_Lcall ?l_Lcall ?c_Lcall ?k_Lcall ?a_Lall_kinds ?l_Lall_kinds ?c_Lall_kinds ?k_Lall_kinds ?a_Lis_whole ?l_Lis_whole ?c_Lis_whole ?k_Lis_whole ?a_Lare_files ?l_Lare_files ?c_Lare_files ?k_Lare_files ?a_Ldue ?l_Ldue ?c_Ldue ?k_Ldue ?a_Lbent ?l_Lbent ?c_Lbent ?k_Lbent ?a_law ?l_law ?c_law ?k_law ?e_Script_init ?i_Script_init ?l_Script_init ?c_Script_init ?k_Script_init ?a_PARTS ?l_PARTS ?v_PARTS_all ?v_PARTS_up ?v_PARTS_swap ?v_PARTS_wheel ?v_PARTS_about ?v_PARTS_front ?v_PARTS_halve ?v_PARTS_pair ?v_PARTS_others ?v_PARTS_fill ?o_PARTS_0 ?o_PARTS_1 ?o_PARTS_2 ?o_PARTS_3 ?o_PARTS_4 ?o_PARTS_5 ?o_PARTS_6 ?o_PARTS_7 ?li_PARTS ?lo_PARTS ?a_UNDOING ?l_UNDOING ?v_UNDOING_halve ?v_UNDOING_pair ?v_UNDOING_others ?v_UNDOING_fill ?o_UNDOING_all ?o_UNDOING_up ?o_UNDOING_swap ?o_UNDOING_wheel ?o_UNDOING_about ?o_UNDOING_front ?li_UNDOING ?lo_UNDOING ?z_len ?z_abs ?z_int ?z_sorted ?z_list ?z_tuple ?z_range ?z_zip ?z_all ?z_set ?z_isinstance ?z_str ?z_bool ?z_repr ?z_reversed
    (case g_Script => k_is)
    (case pg_Script => k_is)
    (case hd_Script => k_is)
    (case po_Script => k_is)
    (case sa_Script => k_is)
    (case ha_Script => k_is)
    (case hm_Script => k_is)
    (case mk_Script => k_is)
    (case kc_Script => k_is)
    (case kI_Script => kit_is)
    (case kB_Script => kit_is)
    (case kT_Script => kit_is)
    (case kL_Script => kit_is)
    (case kD_Script => kit_is)
    (case kS_Script => kit_is)
    (case A_Script_width => k_is)
    (case A_Script_held => k_is)
    (case hgt => k_is)
    (case htk => k_is)
    (case a_is_integer => k_is)
    (case l_is_integer => k_is)
    (case c_is_integer => k_is)
    (case k_is_integer => k_is)
    (case a_is_files => k_is)
    (case l_is_files => k_is)
    (case c_is_files => k_is)
    (case k_is_files => k_is)
    (case a_is_index => k_is)
    (case l_is_index => k_is)
    (case c_is_index => k_is)
    (case k_is_index => k_is)
    (case a_is_part => k_is)
    (case l_is_part => k_is)
    (case c_is_part => k_is)
    (case k_is_part => k_is)
    (case a_is_call => k_is)
    (case l_is_call => k_is)
    (case c_is_call => k_is)
    (case k_is_call => k_is)
    (case a_turned => k_is)
    (case l_turned => k_is)
    (case c_turned => k_is)
    (case k_turned => k_is)
    (case a_files_of => k_is)
    (case l_files_of => k_is)
    (case c_files_of => k_is)
    (case k_files_of => k_is)
    (case a_Lbag => k_is)
    (case l_Lbag => k_is)
    (case c_Lbag => k_is)
    (case k_Lbag => k_is)
    (case a_Ltake => k_is)
    (case l_Ltake => k_is)
    (case c_Ltake => k_is)
    (case k_Ltake => k_is)
    (case a_Lone => k_is)
    (case l_Lone => k_is)
    (case c_Lone => k_is)
    (case k_Lone => k_is)
    (case a_Lmixed => k_is)
    (case l_Lmixed => k_is)
    (case c_Lmixed => k_is)
    (case k_Lmixed => k_is)
    (case a_Lnumber => k_is)
    (case l_Lnumber => k_is)
    (case c_Lnumber => k_is)
    (case k_Lnumber => k_is)
    (case a_Ltwo => k_is)
    (case l_Ltwo => k_is)
    (case c_Ltwo => k_is)
    (case k_Ltwo => k_is)
    (case a_Lcall => k_is)
    (case l_Lcall => k_is)
    (case c_Lcall => k_is)
    (case k_Lcall => k_is)
    (case a_Lall_kinds => k_is)
    (case l_Lall_kinds => k_is)
    (case c_Lall_kinds => k_is)
    (case k_Lall_kinds => k_is)
    (case a_Lis_whole => k_is)
    (case l_Lis_whole => k_is)
    (case c_Lis_whole => k_is)
    (case k_Lis_whole => k_is)
    (case a_Lare_files => k_is)
    (case l_Lare_files => k_is)
    (case c_Lare_files => k_is)
    (case k_Lare_files => k_is)
    (case a_Ldue => k_is)
    (case l_Ldue => k_is)
    (case c_Ldue => k_is)
    (case k_Ldue => k_is)
    (case a_Lbent => k_is)
    (case l_Lbent => k_is)
    (case c_Lbent => k_is)
    (case k_Lbent => k_is)
    (case a_law => k_is)
    (case l_law => k_is)
    (case c_law => k_is)
    (case k_law => k_is)
    (case e_Script_init => k_is)
    (case i_Script_init => k_is)
    (case l_Script_init => k_is)
    (case c_Script_init => k_is)
    (case k_Script_init => k_is)
    (case a_PARTS => k_is)
    (case l_PARTS => k_is)
    (case v_PARTS_all => k_is)
    (case v_PARTS_up => k_is)
    (case v_PARTS_swap => k_is)
    (case v_PARTS_wheel => k_is)
    (case v_PARTS_about => k_is)
    (case v_PARTS_front => k_is)
    (case v_PARTS_halve => k_is)
    (case v_PARTS_pair => k_is)
    (case v_PARTS_others => k_is)
    (case v_PARTS_fill => k_is)
    (case o_PARTS_0 => k_is)
    (case o_PARTS_1 => k_is)
    (case o_PARTS_2 => k_is)
    (case o_PARTS_3 => k_is)
    (case o_PARTS_4 => k_is)
    (case o_PARTS_5 => k_is)
    (case o_PARTS_6 => k_is)
    (case o_PARTS_7 => k_is)
    (case li_PARTS => exact ⟨⟨_, _, rfl, rfl⟩, ⟨_, _, rfl, rfl⟩, ⟨_, _, rfl, rfl⟩, ⟨_, _, rfl, rfl⟩, ⟨_, _, rfl, rfl⟩, ⟨_, _, rfl, rfl⟩, ⟨_, _, rfl, rfl⟩, ⟨_, _, rfl, rfl⟩, ⟨_, _, rfl, rfl⟩, ⟨_, _, rfl, rfl⟩, trivial⟩)
    (case lo_PARTS => decide +kernel)
    (case a_UNDOING => k_is)
    (case l_UNDOING => k_is)
    (case v_UNDOING_halve => k_is)
    (case v_UNDOING_pair => k_is)
    (case v_UNDOING_others => k_is)
    (case v_UNDOING_fill => k_is)
    (case o_UNDOING_all => k_is)
    (case o_UNDOING_up => k_is)
    (case o_UNDOING_swap => k_is)
    (case o_UNDOING_wheel => k_is)
    (case o_UNDOING_about => k_is)
    (case o_UNDOING_front => k_is)
    (case li_UNDOING => exact ⟨⟨_, _, rfl, rfl⟩, ⟨_, _, rfl, rfl⟩, ⟨_, _, rfl, rfl⟩, ⟨_, _, rfl, rfl⟩, trivial⟩)
    (case lo_UNDOING => decide +kernel)
    (case z_len => k_is)
    (case z_abs => k_is)
    (case z_int => k_is)
    (case z_sorted => k_is)
    (case z_list => k_is)
    (case z_tuple => k_is)
    (case z_range => k_is)
    (case z_zip => k_is)
    (case z_all => k_is)
    (case z_set => k_is)
    (case z_isinstance => k_is)
    (case z_str => k_is)
    (case z_bool => k_is)
    (case z_repr => k_is)
    (case z_reversed => k_is)


