import PyProof.Rows.All
import Wide.All
import OpenK.AllK
import Wide.FinOn
import HandS.ForMost
import HandS.ForExc
import HandS.Evl
import HandS.Wide
import HandS.TupAny
import HandS.TupMul
import HandS.Deep
import HandS.Flow
import HandS.ExcInit
import HandS.ExcValue
import HandS.Zip
import HandS.IsInst
import HandS.Gcd
import HandS.WordsExc
import HandS.Conv
import HandS.Style
import HandS.ExcIs
import KE.KExcIs
import HandS.Ends
import HandS.ExcOwn
import KE.KExcInit
import HandS.ExcField
import HandS.TryMany
import PySem.Challenge.RW_everysource_k00_errors
set_option Elab.async false
set_option linter.all false
set_option maxRecDepth 100000
set_option maxHeartbeats 0
namespace EV
open PySem L2

/-! ### values, cells, the store -/
inductive D where
  | non | bl (b : Bool) | int (i : Int) | str (x : Str) | tup (l : List D) | lst (r : Nat) | dct (r : Nat) | ty (n : String) | exo (x : Str)
inductive Cell where
  | lst (l : List D)
  | frz (l : List D)
  | dct (kvs : List (D × D))
/-- newest first; n is their number -/
structure S where
  n : Nat
  cs : List Cell
def S.get (s : S) (r : Nat) : Option Cell := if r < s.n then s.cs[s.n - 1 - r]? else none
def S.new (s : S) (c : Cell) : S := ⟨s.n + 1, c :: s.cs⟩
def S.put (s : S) (r : Nat) (c : Cell) : S := ⟨s.n, s.cs.set (s.n - 1 - r) c⟩

structure Ex where
  c : Nat
  a : Option D
inductive R (α : Type) where
  | ok (a : α) (s : S)
  | ex (x : Ex) (s : S)
  | no
@[inline] def R.bind {α β : Type} (m : R α) (f : α → S → R β) : R β := match m with
  | .ok a s => f a s
  | .ex x s => .ex x s
  | .no => .no
abbrev FT := Nat → List D → S → R D
abbrev En := List (Option D)
abbrev ME := FT → En → S → R D
abbrev MA := FT → En → S → R (List D)
abbrev MT := FT → En → S → R Bool
inductive Fl where
  | nx (e : En) | rt (d : D) | bk (e : En) | ct (e : En)
abbrev MS := FT → En → S → R Fl

/-! ### what they stand for -/
/-- an exception of the class at C, as a value: nobody writes to it -/
def XoAt (H : Hp) (ι : List Addr) (C a : Addr) : Prop := a ∉ ι ∧ (H a = some (ExO (.ref C) a) ∨ ∃ dx fs, H a = some (exo a C (some dx)) ∧ H dx = some (exd dx fs) ∧ dx ∉ ι)
section
variable (K : PySem.W.Frag) (H : Hp) (ι : List Addr)
mutual
inductive RV : D → V → Prop
  | non : RV .non .non
  | bl (b : Bool) : RV (.bl b) (.bl b)
  | int (i : Int) : RV (.int i) (.int i)
  | str (x : Str) : RV (.str x) (.str x)
  | tup {a : Addr} {ds : List D} {xs : List V} : SqT K H a xs → RVs ds xs → RV (.tup ds) (.ref a)
  | lst {r : Nat} {a : Addr} : ι[r]? = some a → RV (.lst r) (.ref a)
  | dct {r : Nat} {a : Addr} : ι[r]? = some a → RV (.dct r) (.ref a)
  | ty (n : String) : RV (.ty n) (.ty n)
  | exo {x : Str} {C a : Addr} : PySem.W.nsIn K mainGlobals x = some (some (.ref C)) → XoAt H ι C a → RV (.exo x) (.ref a)
inductive RVs : List D → List V → Prop
  | nil : RVs [] []
  | cons {d : D} {v : V} {ds : List D} {vs : List V} : RV d v → RVs ds vs → RVs (d :: ds) (v :: vs)
end
end
/-- later: tuples stay, the addresses are carried on, what no cell speaks of stays -/
structure Fw (K : PySem.W.Frag) (H : Hp) (ι : List Addr) (H' : Hp) (ι' : List Addr) : Prop where
  tup : ∀ a xs, SqT K H a xs → SqT K H' a xs
  ad : ∃ l, ι' = ι ++ l ∧ ∀ a ∈ l, H a = none
  dom : ∀ a, H' a = none → H a = none
  oth : ∀ a o, H a = some o → a ∉ ι → (∀ ps, o ≠ .tbl ps) → H' a = some o
theorem Fw.refl {K : PySem.W.Frag} {H : Hp} {ι : List Addr} : Fw K H ι H ι := ⟨fun _ _ h => h, ⟨[], by simp, by simp⟩, fun _ h => h, fun _ _ h _ _ => h⟩
theorem Fw.out {K : PySem.W.Frag} {H H' : Hp} {ι ι' : List Addr} (f : Fw K H ι H' ι') {a : Addr} {o : HO} (h : H a = some o) (hn : a ∉ ι) : a ∉ ι' := by
  obtain ⟨l, rfl, hl⟩ := f.ad
  intro hm
  rcases List.mem_append.mp hm with hm | hm
  · exact hn hm
  · have := hl a hm
    rw [h] at this; cases this
theorem Fw.trans {K : PySem.W.Frag} {H H' H'' : Hp} {ι ι' ι'' : List Addr} (a : Fw K H ι H' ι') (b : Fw K H' ι' H'' ι'') : Fw K H ι H'' ι'' := by
  refine ⟨fun _ _ h => b.tup _ _ (a.tup _ _ h), ?_, fun x h => a.dom x (b.dom x h), fun x o h hn ht => b.oth x o (a.oth x o h hn ht) (a.out h hn) ht⟩
  obtain ⟨l, rfl, hl⟩ := a.ad
  obtain ⟨l', rfl, hl'⟩ := b.ad
  refine ⟨l ++ l', by rw [List.append_assoc], fun x hx => ?_⟩
  rcases List.mem_append.mp hx with hx | hx
  · exact hl x hx
  · exact a.dom x (hl' x hx)
theorem Fw.at {K : PySem.W.Frag} {H H' : Hp} {ι ι' : List Addr} (f : Fw K H ι H' ι') {r : Nat} {a : Addr} (h : ι[r]? = some a) : ι'[r]? = some a := by
  obtain ⟨l, rfl, _⟩ := f.ad
  have hr : r < ι.length := (List.getElem?_eq_some_iff.mp h).1
  rw [List.getElem?_append_left hr]
  exact h
theorem XoAt.of {H H' : Hp} {ι ι' : List Addr} {C a : Addr} (h : XoAt H ι C a) (k : ∀ b φ, H b = some (.ext φ) → b ∉ ι → H' b = some (.ext φ) ∧ b ∉ ι') : XoAt H' ι' C a := by
  obtain ⟨hn, h | ⟨dx, fs, h1, h2, h3⟩⟩ := h
  · obtain ⟨k1, k2⟩ := k a _ h hn
    exact ⟨k2, .inl k1⟩
  · obtain ⟨k1, k2⟩ := k a _ h1 hn
    obtain ⟨k3, k4⟩ := k dx _ h2 h3
    exact ⟨k2, .inr ⟨dx, fs, k1, k3, k4⟩⟩
section
variable {K : PySem.W.Frag} {H H' : Hp} {ι ι' : List Addr}
mutual
theorem RV.fw (f : Fw K H ι H' ι') : ∀ {d : D} {v : V}, RV K H ι d v → RV K H' ι' d v
  | _, _, .non => .non
  | _, _, .bl b => .bl b
  | _, _, .int i => .int i
  | _, _, .str x => .str x
  | _, _, .tup h hs => .tup (f.tup _ _ h) (RVs.fw f hs)
  | _, _, .lst h => .lst (f.at h)
  | _, _, .dct h => .dct (f.at h)
  | _, _, .ty n => .ty n
  | _, _, .exo h1 h2 => .exo h1 (h2.of fun b φ e hn => ⟨f.oth b _ e hn fun ps z => (by cases z), f.out e hn⟩)
theorem RVs.fw (f : Fw K H ι H' ι') : ∀ {ds : List D} {vs : List V}, RVs K H ι ds vs → RVs K H' ι' ds vs
  | _, _, .nil => .nil
  | _, _, .cons h hs => .cons (RV.fw f h) (RVs.fw f hs)
end
mutual
theorem RV.ups (f : ∀ (r : Nat) (a : Addr), ι[r]? = some a → ι'[r]? = some a) (fx : ∀ b φ, H b = some (HO.ext φ) → b ∉ ι → b ∉ ι') : ∀ {d : D} {v : V}, RV K H ι d v → RV K H ι' d v
  | _, _, .non => .non
  | _, _, .bl b => .bl b
  | _, _, .int i => .int i
  | _, _, .str x => .str x
  | _, _, .tup h hs => .tup h (RVs.ups f fx hs)
  | _, _, .lst h => .lst (f _ _ h)
  | _, _, .dct h => .dct (f _ _ h)
  | _, _, .ty n => .ty n
  | _, _, .exo h1 h2 => .exo h1 (h2.of fun b φ e hn => ⟨e, fx b φ e hn⟩)
theorem RVs.ups (f : ∀ (r : Nat) (a : Addr), ι[r]? = some a → ι'[r]? = some a) (fx : ∀ b φ, H b = some (HO.ext φ) → b ∉ ι → b ∉ ι') : ∀ {ds : List D} {vs : List V}, RVs K H ι ds vs → RVs K H ι' ds vs
  | _, _, .nil => .nil
  | _, _, .cons h hs => .cons (RV.ups f fx h) (RVs.ups f fx hs)
end
mutual
theorem RV.tps (f : ∀ a xs, SqT K H a xs → SqT K H' a xs) (fx : ∀ b φ, H b = some (HO.ext φ) → H' b = some (HO.ext φ)) : ∀ {d : D} {v : V}, RV K H ι d v → RV K H' ι d v
  | _, _, .non => .non
  | _, _, .bl b => .bl b
  | _, _, .int i => .int i
  | _, _, .str x => .str x
  | _, _, .tup h hs => .tup (f _ _ h) (RVs.tps f fx hs)
  | _, _, .lst h => .lst h
  | _, _, .dct h => .dct h
  | _, _, .ty n => .ty n
  | _, _, .exo h1 h2 => .exo h1 (h2.of fun b φ e hn => ⟨fx b φ e, hn⟩)
theorem RVs.tps (f : ∀ a xs, SqT K H a xs → SqT K H' a xs) (fx : ∀ b φ, H b = some (HO.ext φ) → H' b = some (HO.ext φ)) : ∀ {ds : List D} {vs : List V}, RVs K H ι ds vs → RVs K H' ι ds vs
  | _, _, .nil => .nil
  | _, _, .cons h hs => .cons (RV.tps f fx h) (RVs.tps f fx hs)
end
theorem RVs.length : ∀ {ds : List D} {vs : List V}, RVs K H ι ds vs → ds.length = vs.length
  | _, _, .nil => rfl
  | _, _, .cons _ hs => by simp [RVs.length hs]
theorem RVs.get : ∀ {ds : List D} {vs : List V}, RVs K H ι ds vs → ∀ {i : Nat} {d : D}, ds[i]? = some d → ∃ v, vs[i]? = some v ∧ RV K H ι d v
  | _, _, .nil, _, _, e => by simp at e
  | _, _, .cons h _, 0, _, e => by simp at e; subst e; exact ⟨_, rfl, h⟩
  | _, _, .cons _ hs, i + 1, _, e => by
    obtain ⟨v, h1, h2⟩ := RVs.get hs (i := i) (by simpa using e)
    exact ⟨v, by simpa using h1, h2⟩
theorem RVs.append : ∀ {ds es : List D} {vs us : List V}, RVs K H ι ds vs → RVs K H ι es us → RVs K H ι (ds ++ es) (vs ++ us)
  | _, _, _, _, .nil, s => s
  | _, _, _, _, .cons r t, s => .cons r (RVs.append t s)
theorem RVs.set {d : D} {v : V} (r : RV K H ι d v) : ∀ {ds : List D} {vs : List V} (i : Nat), RVs K H ι ds vs → RVs K H ι (ds.set i d) (vs.set i v)
  | _, _, _, .nil => .nil
  | _, _, 0, .cons _ t => .cons r t
  | _, _, i + 1, .cons q t => .cons q (RVs.set r i t)
theorem RVs.take : ∀ {ds : List D} {vs : List V} (n : Nat), RVs K H ι ds vs → RVs K H ι (ds.take n) (vs.take n)
  | _, _, 0, _ => .nil
  | _, _, _ + 1, .nil => .nil
  | _, _, n + 1, .cons r t => .cons r (RVs.take n t)
theorem RVs.drop : ∀ {ds : List D} {vs : List V} (n : Nat), RVs K H ι ds vs → RVs K H ι (ds.drop n) (vs.drop n)
  | _, _, 0, r => r
  | _, _, _ + 1, .nil => .nil
  | _, _, n + 1, .cons _ t => RVs.drop n t
end

/-- a cell stands at its address -/
def CellOk (K : PySem.W.Frag) (H : Hp) (ι : List Addr) (c : Cell) (a : Addr) : Prop := match c with
  | .lst l => ∃ xs, H a = some (.lst xs) ∧ RVs K H ι l xs
  | .frz l => ∃ o xs, H a = some (.frz o (.lst xs)) ∧ RVs K H ι l xs
  | .dct _ => False
/-- a code object's table that is tracked -/
def TabH (H : Hp) (P : Addr) : Prop := ∃ ps : Array Value, H P = some (.tbl ps) ∧ TriplesOk ps.toList
/-- the store stands for the abstract heap; T: the tables of code objects -/
structure RS (K : PySem.W.Frag) (T : List Addr) (H : Hp) (ι : List Addr) (s : S) : Prop where
  tab : ∀ P ∈ T, TabH H P
  n : s.n = s.cs.length
  len : ι.length = s.n
  nd : ι.Nodup
  cell : ∀ r c a, s.get r = some c → ι[r]? = some a → CellOk K H ι c a
def RE (K : PySem.W.Frag) (H : Hp) (ι : List Addr) (e : En) (σ : St) : Prop :=
  e.length = σ.length ∧ ∀ (i : Nat) (d : D), e[i]? = some (some d) → ∃ v, σ[i]? = some (some v) ∧ RV K H ι d v
theorem RE.fw {K : PySem.W.Frag} {H H' : Hp} {ι ι' : List Addr} {e : En} {σ : St} (f : Fw K H ι H' ι') (h : RE K H ι e σ) : RE K H' ι' e σ :=
  ⟨h.1, fun i d q => let ⟨v, a, b⟩ := h.2 i d q; ⟨v, a, b.fw f⟩⟩
theorem RE.set {K : PySem.W.Frag} {H : Hp} {ι : List Addr} {e : En} {σ : St} {d : D} {v : V} (h : RE K H ι e σ) (r : RV K H ι d v) (i : Nat) : RE K H ι (e.set i (some d)) (σ.set i (some v)) := by
  refine ⟨by rw [List.length_set, List.length_set]; exact h.1, fun j d' q => ?_⟩
  rw [List.getElem?_set] at q
  by_cases hij : i = j
  · subst hij
    rw [if_pos rfl] at q
    split at q
    · cases q
      rename_i hl
      exact ⟨v, by rw [List.getElem?_set, if_pos rfl, if_pos (by rw [← h.1]; exact hl)], r⟩
    · cases q
  · rw [if_neg hij] at q
    obtain ⟨v', a, b⟩ := h.2 j d' q
    exact ⟨v', by rw [List.getElem?_set, if_neg hij]; exact a, b⟩

theorem S.get_new {s : S} {c : Cell} (hn : s.n = s.cs.length) (r : Nat) : (s.new c).get r = if r = s.n then some c else s.get r := by
  unfold S.get S.new
  simp only
  by_cases h : r = s.n
  · subst h
    rw [if_pos (by omega), if_pos rfl]
    simp
  · rw [if_neg h]
    by_cases h1 : r < s.n
    · rw [if_pos (by omega), if_pos h1]
      have e : s.n + 1 - 1 - r = (s.n - 1 - r) + 1 := by omega
      rw [e, List.getElem?_cons_succ]
    · rw [if_neg (by omega), if_neg h1]
theorem S.get_put {s : S} {c : Cell} (hn : s.n = s.cs.length) {q : Nat} (hq : q < s.n) (r : Nat) : (s.put q c).get r = if r = q then some c else s.get r := by
  unfold S.get S.put
  simp only
  by_cases h : r = q
  · subst h
    rw [if_pos hq, if_pos rfl, List.getElem?_set_self (by omega)]
  · rw [if_neg h]
    by_cases h1 : r < s.n
    · rw [if_pos h1, if_pos h1, List.getElem?_set_ne (by omega)]
    · rw [if_neg h1, if_neg h1]
theorem S.get_lt {s : S} {r : Nat} {c : Cell} (h : s.get r = some c) : r < s.n := by
  unfold S.get at h
  split at h
  · assumption
  · cases h

theorem CellOk.fw {K : PySem.W.Frag} {H H' : Hp} {ι ι' : List Addr} {c : Cell} {a : Addr} (f : Fw K H ι H' ι') (e : H' a = H a) (h : CellOk K H ι c a) : CellOk K H' ι' c a := by
  cases c with
  | lst l => obtain ⟨xs, h1, h2⟩ := h; exact ⟨xs, e.trans h1, h2.fw f⟩
  | frz l => obtain ⟨o, xs, h1, h2⟩ := h; exact ⟨o, xs, e.trans h1, h2.fw f⟩
  | dct kvs => exact h.elim
theorem CellOk.some {K : PySem.W.Frag} {H : Hp} {ι : List Addr} {c : Cell} {a : Addr} (h : CellOk K H ι c a) : ∃ o, H a = some o ∧ ∀ xs, o ≠ .tup xs := by
  cases c with
  | lst l => obtain ⟨xs, h1, _⟩ := h; exact ⟨_, h1, fun _ z => nomatch z⟩
  | frz l => obtain ⟨o, xs, h1, _⟩ := h; exact ⟨_, h1, fun _ z => nomatch z⟩
  | dct kvs => exact h.elim

section
variable {K : PySem.W.Frag} {T : List Addr} {H H' : Hp} {ι : List Addr} {s : S} {p : Addr} {o : HO}
theorem RS.lt {r : Nat} {a : Addr} (R : RS K T H ι s) (h : ι[r]? = some a) : r < s.n := by
  rw [← R.len]; exact (List.getElem?_eq_some_iff.mp h).1
theorem RS.have {r : Nat} (R : RS K T H ι s) (h : r < s.n) : ∃ c, s.get r = some c := by
  unfold S.get
  rw [if_pos h]
  have : s.n - 1 - r < s.cs.length := by rw [← R.n]; omega
  exact ⟨_, List.getElem?_eq_getElem this⟩
theorem RS.at {r : Nat} {a : Addr} {c : Cell} (R : RS K T H ι s) (h : ι[r]? = some a) (e : s.get r = some c) : CellOk K H ι c a := R.cell r c a e h
theorem RS.addr {r : Nat} {c : Cell} (R : RS K T H ι s) (e : s.get r = some c) : ∃ a, ι[r]? = some a := by
  have := S.get_lt e
  rw [← R.len] at this
  exact ⟨_, List.getElem?_eq_getElem this⟩
theorem RS.off (R : RS K T H ι s) (hp : H p = none) {r : Nat} {a : Addr} (h : ι[r]? = some a) : a ≠ p := by
  obtain ⟨c, hc⟩ := R.have (R.lt h)
  obtain ⟨o, ho, _⟩ := (R.at h hc).some
  rintro rfl
  rw [hp] at ho; cases ho
theorem sqT_upd {a : Addr} {xs : List V} (hp : ∀ o, H p = some o → (∀ ys, o ≠ .tup ys) ∧ ∀ b ys, o ≠ .frz b (.tup ys)) (h : SqT K H a xs) : SqT K (upd H p o) a xs := by
  rcases h with h | h
  · rcases h with h | ⟨b, h⟩
    · refine .inl (.inl ?_)
      rw [upd_ne (fun z => by subst z; exact (hp _ h).1 _ rfl)]; exact h
    · refine .inl (.inr ⟨b, ?_⟩)
      rw [upd_ne (fun z => by subst z; exact (hp _ h).2 _ _ rfl)]; exact h
  · exact .inr h
theorem upd_none {b : Addr} (h : upd H p o b = none) : H b = none := by
  unfold upd at h
  split at h
  · cases h
  · exact h
theorem Fw.new (hp : H p = none) : Fw K H ι (upd H p o) ι := ⟨fun a xs h => sqT_upd (fun o z => by rw [hp] at z; cases z) h, ⟨[], by simp, by simp⟩, fun _ h => upd_none h, fun a u h _ _ => by rw [upd_ne (ne_of_none h hp)]; exact h⟩
theorem Fw.newA (hp : H p = none) : Fw K H ι (upd H p o) (ι ++ [p]) := ⟨fun a xs h => sqT_upd (fun o z => by rw [hp] at z; cases z) h, ⟨[p], rfl, fun a ha => by rw [List.mem_singleton.mp ha]; exact hp⟩, fun _ h => upd_none h, fun a u h _ _ => by rw [upd_ne (ne_of_none h hp)]; exact h⟩
theorem TabH.upd {P : Addr} (hp : ∀ ps, H p ≠ some (.tbl ps)) (h : TabH H P) : TabH (upd H p o) P := by
  obtain ⟨ps, h1, h2⟩ := h
  exact ⟨ps, by rw [upd_ne (fun z => by subst z; exact hp _ h1)]; exact h1, h2⟩
/-- a new object that no cell speaks of -/
theorem RS.new (R : RS K T H ι s) (hp : H p = none) : RS K T (upd H p o) ι s where
  tab := fun P hP => (R.tab P hP).upd fun ps z => by rw [hp] at z; cases z
  n := R.n
  len := R.len
  nd := R.nd
  cell := fun r c a e h => (R.cell r c a e h).fw (Fw.new hp) (upd_ne (R.off hp h))
/-- a new cell -/
theorem RS.alloc {c : Cell} (R : RS K T H ι s) (hp : H p = none) (hc : CellOk K (upd H p o) (ι ++ [p]) c p) : RS K T (upd H p o) (ι ++ [p]) (s.new c) where
  tab := fun P hP => (R.tab P hP).upd fun ps z => by rw [hp] at z; cases z
  n := by show s.n + 1 = _; rw [R.n]; rfl
  len := by rw [List.length_append, R.len]; rfl
  nd := by
    rw [List.nodup_append]
    refine ⟨R.nd, by simp, fun a ha b hb => ?_⟩
    obtain ⟨r, hr⟩ := List.mem_iff_getElem?.mp ha
    rw [List.mem_singleton.mp hb]
    exact R.off hp hr
  cell := fun r d a e h => by
    rw [S.get_new R.n] at e
    by_cases hr : r = s.n
    · rw [if_pos hr] at e
      cases e
      have : a = p := by
        rw [hr, ← R.len] at h
        simpa using h.symm
      subst this
      exact hc
    · rw [if_neg hr] at e
      have hl := S.get_lt e
      have h' : ι[r]? = some a := by
        rw [List.getElem?_append_left (by rw [R.len]; exact hl)] at h
        exact h
      exact (R.cell r d a e h').fw (Fw.newA hp) (upd_ne (R.off hp h'))
/-- a cell written -/
theorem Fw.put {r : Nat} {c : Cell} {a : Addr} (R : RS K T H ι s) (e : s.get r = some c) (hf : ∀ l, c ≠ .frz l) (h : ι[r]? = some a) : Fw K H ι (upd H a o) ι := by
  refine ⟨fun b xs q => sqT_upd (fun u hu => ?_) q, ⟨[], by simp, by simp⟩, fun _ h => upd_none h, fun b u q hn _ => by rw [upd_ne (fun z => hn (by subst z; exact List.mem_of_getElem? h))]; exact q⟩
  have z := R.at h e
  cases c with
  | lst l => obtain ⟨xs, h1, _⟩ := z; rw [h1] at hu; cases hu; exact ⟨fun _ z => (nomatch z), fun _ _ z => (nomatch z)⟩
  | frz l => exact absurd rfl (hf l)
  | dct kvs => exact z.elim
theorem RS.write {r : Nat} {c c' : Cell} {a : Addr} (R : RS K T H ι s) (e : s.get r = some c) (hf : ∀ l, c ≠ .frz l) (h : ι[r]? = some a) (hc : CellOk K (upd H a o) ι c' a) : RS K T (upd H a o) ι (s.put r c') where
  tab := fun P hP => (R.tab P hP).upd fun ps z => by
    have q := R.at h e
    cases c with
    | lst l => obtain ⟨xs, h1, _⟩ := q; rw [h1] at z; cases z
    | frz l => exact hf l rfl
    | dct kvs => exact q.elim
  n := by show s.n = (s.cs.set _ _).length; rw [List.length_set]; exact R.n
  len := R.len
  nd := R.nd
  cell := fun q d b e' h' => by
    rw [S.get_put R.n (S.get_lt e)] at e'
    by_cases hq : q = r
    · subst hq
      rw [if_pos rfl] at e'
      cases e'
      rw [h] at h'
      cases h'
      exact hc
    · rw [if_neg hq] at e'
      have hne : b ≠ a := fun z => by
        subst z
        have h1 := (List.getElem?_eq_some_iff.mp h).1
        have h2 := (List.getElem?_eq_some_iff.mp h').1
        exact hq ((List.getElem?_inj h2 R.nd).mp (h'.trans h.symm))
      exact (R.cell q d b e' h').fw (Fw.put R e hf h) (upd_ne hne)
end

/-! ### readings by the evaluator -/
structure Cfg where
  K : PySem.W.Frag
  T : List Addr
  F : FT
  RX : Hp → List Addr → Ex → Value → Option Addr → Prop
def tR {α β : Type} (g : Cfg) (E : XK) (Rl : Hp → List Addr → α → β → Prop) (r : R α) (H : Hp) (ι : List Addr) (Q : β → Hp → Prop) : Prop := match r with
  | .ok d s => ∀ v H' ι', Fw g.K H ι H' ι' → RS g.K g.T H' ι' s → Rl H' ι' d v → Q v H'
  | .ex x s => ∀ c od H' ι', Fw g.K H ι H' ι' → RS g.K g.T H' ι' s → g.RX H' ι' x c od → E c od H'
  | .no => False
abbrev tRe (g : Cfg) (E : XK) : R D → Hp → List Addr → VK → Prop := tR g E (RV g.K)
abbrev tRa (g : Cfg) (E : XK) : R (List D) → Hp → List Addr → (List V → Hp → Prop) → Prop := tR g E (RVs g.K)
abbrev tRt (g : Cfg) (E : XK) : R Bool → Hp → List Addr → (Bool → Hp → Prop) → Prop := tR g E fun _ _ a b => a = b
theorem tR.fw {α β : Type} {g : Cfg} {E : XK} {Rl : Hp → List Addr → α → β → Prop} {r : R α} {H H' : Hp} {ι ι' : List Addr} {Q : β → Hp → Prop} (f : Fw g.K H ι H' ι') (h : tR g E Rl r H ι Q) : tR g E Rl r H' ι' Q := by
  cases r with
  | ok d s => exact fun v H2 ι2 f2 => h v H2 ι2 (f.trans f2)
  | ex x s => exact fun c od H2 ι2 f2 => h c od H2 ι2 (f.trans f2)
  | no => exact h
theorem tR.imp {α β : Type} {g : Cfg} {E : XK} {Rl : Hp → List Addr → α → β → Prop} {r : R α} {H : Hp} {ι : List Addr} {Q Q' : β → Hp → Prop} (h : tR g E Rl r H ι Q) (k : ∀ v H', Q v H' → Q' v H') : tR g E Rl r H ι Q' := by
  cases r with
  | ok d s => exact fun v H2 ι2 f2 a b => k _ _ (h v H2 ι2 f2 a b)
  | ex x s => exact h
  | no => exact h
theorem tR.rel {α β : Type} {g : Cfg} {E : XK} {Rl Rl' : Hp → List Addr → α → β → Prop} {r : R α} {H : Hp} {ι : List Addr} {Q : β → Hp → Prop} (h : tR g E Rl r H ι Q) (k : ∀ H' ι' a b, Rl' H' ι' a b → Rl H' ι' a b) : tR g E Rl' r H ι Q := by
  cases r with
  | ok d s => exact fun v H2 ι2 f2 a b => h v H2 ι2 f2 a (k _ _ _ _ b)
  | ex x s => exact h
  | no => exact h
/-- one behind another -/
theorem tR.bind {α β γ δ : Type} {g : Cfg} {E : XK} {Rl : Hp → List Addr → α → β → Prop} {Rl2 : Hp → List Addr → γ → δ → Prop} {r : R α} {f : α → S → R γ} {H : Hp} {ι : List Addr} {Q : δ → Hp → Prop} (h : tR g E Rl2 (r.bind f) H ι Q)
    {Q' : β → Hp → Prop} (k : ∀ d s v H' ι', r = .ok d s → Fw g.K H ι H' ι' → RS g.K g.T H' ι' s → Rl H' ι' d v → tR g E Rl2 (f d s) H' ι' Q → Q' v H') : tR g E Rl r H ι Q' := by
  cases r with
  | ok d s => exact fun v H2 ι2 f2 a b => k d s v H2 ι2 rfl f2 a b (h.fw f2)
  | ex x s => exact h
  | no => exact h

def te (g : Cfg) (E : XK) (m : ME) : TE := fun σ H Q => ∃ ι e s, RS g.K g.T H ι s ∧ RE g.K H ι e σ ∧ tRe g E (m g.F e s) H ι Q
def ta (g : Cfg) (E : XK) (m : MA) : TA := fun σ H Q => ∃ ι e s, RS g.K g.T H ι s ∧ RE g.K H ι e σ ∧ tRa g E (m g.F e s) H ι Q
def tt (g : Cfg) (E : XK) (m : MT) : TT := fun σ H Q => ∃ ι e s, RS g.K g.T H ι s ∧ RE g.K H ι e σ ∧ tRt g E (m g.F e s) H ι Q
/-- a two-place operation by the evaluator -/
def ro (g : Cfg) (E : XK) (f : D → D → S → R D) : R2 := fun x y H Q => ∃ ι dx dy s, RS g.K g.T H ι s ∧ RV g.K H ι dx x ∧ RV g.K H ι dy y ∧ tRe g E (f dx dy s) H ι Q
def ru (g : Cfg) (E : XK) (f : D → S → R D) : V → Hp → VK → Prop := fun x H Q => ∃ ι dx s, RS g.K g.T H ι s ∧ RV g.K H ι dx x ∧ tRe g E (f dx s) H ι Q
def rc (g : Cfg) (E : XK) (f : List D → S → R D) : List V → Hp → VK → Prop := fun xs H Q => ∃ ι ds s, RS g.K g.T H ι s ∧ RVs g.K H ι ds xs ∧ tRe g E (f ds s) H ι Q
theorem PE.imp {X : Cx} {e : PySem.Expr} {t t' : TE} (h : PE X e t) (k : ∀ σ H Q, t' σ H Q → t σ H Q) : PE X e t' := ⟨fun pins s σ H Q I q => h.run pins s σ H Q I (k σ H Q q)⟩
theorem PA.imp {X : Cx} {e : List PySem.Expr} {t t' : TA} (h : PA X e t) (k : ∀ σ H Q, t' σ H Q → t σ H Q) : PA X e t' := ⟨fun pos pins s σ H Q I q => h.run pos pins s σ H Q I (k σ H Q q)⟩
theorem PT.imp {X : Cx} {e : PySem.Expr} {t t' : TT} (h : PT X e t) (k : ∀ σ H Q, t' σ H Q → t σ H Q) : PT X e t' := ⟨fun pins s σ H Q I q => h.run pins s σ H Q I (k σ H Q q)⟩
theorem PW.imp {X : Cx} {e : PySem.Expr} {t t' : TT} (h : PW X e t) (k : ∀ σ H Q, t' σ H Q → t σ H Q) : PW X e t' := ⟨fun wh pins s σ H Q I q => h.run wh pins s σ H Q I (k σ H Q q)⟩
theorem PS.imp {X : Cx} {e : PySem.Stmt} {t t' : TS} (h : PS X e t) (k : ∀ D σ H, t' D σ H → t D σ H) : PS X e t' := ⟨fun pins s σ H D I q => h.run pins s σ H D I (k D σ H q)⟩
theorem PSs.imp {X : Cx} {e : List PySem.Stmt} {t t' : TS} (h : PSs X e t) (k : ∀ D σ H, t' D σ H → t D σ H) : PSs X e t' := ⟨fun pins s σ H D I q => h.run pins s σ H D I (k D σ H q)⟩

/-! ### expressions -/
def mNo : ME := fun _ _ _ => .no
def mC (d : D) : ME := fun _ _ s => .ok d s
def mVar (i : Nat) : ME := fun _ e s => match e[i]? with
  | some (some d) => .ok d s
  | _ => .no
def mOp (f : D → D → S → R D) (a b : ME) : ME := fun F e s => (a F e s).bind fun x s1 => (b F e s1).bind fun y s2 => f x y s2
def mUn (f : D → S → R D) (a : ME) : ME := fun F e s => (a F e s).bind fun x s1 => f x s1
def mNil : MA := fun _ _ s => .ok [] s
def mCons (a : ME) (r : MA) : MA := fun F e s => (a F e s).bind fun x s1 => (r F e s1).bind fun xs s2 => .ok (x :: xs) s2
def mCall (f : List D → S → R D) (a : MA) : ME := fun F e s => (a F e s).bind fun xs s1 => f xs s1
def mTup (a : MA) : ME := fun F e s => (a F e s).bind fun xs s1 => if xs.length ≤ 100000 then .ok (.tup xs) s1 else .no
def mkL (xs : List D) (s : S) : R D := if xs.length ≤ 100000 then .ok (.lst s.n) (s.new (.lst xs)) else .no
def mLst (a : MA) : ME := fun F e s => (a F e s).bind mkL

section
variable {X : Cx} {g : Cfg} {E : XK} {a b : PySem.Expr} {ma mb : ME}
theorem e_no : PE X a (te g E mNo) := ⟨fun _ _ _ _ _ _ h => by obtain ⟨_, _, _, _, _, h⟩ := h; exact h.elim⟩
theorem e_var {i : Nat} {x : Str} {pos : Pos} (hN : X.N[i]? = some x) (hv : Vis X.env.scope x) (hd : (x == ("__debug__" : Str)) = false) (hcd : (x == ("__classdict__" : Str)) = false) : PE X (.Name x pos) (te g E (mVar i)) :=
  PE.imp (pe_var hN hv hd hcd) fun σ H Q ⟨ι, e, s, R, q, h⟩ => by
    unfold mVar at h
    cases hq : e[i]? with
    | none => rw [hq] at h; exact h.elim
    | some o =>
      cases o with
      | none => rw [hq] at h; exact h.elim
      | some d =>
        rw [hq] at h
        obtain ⟨v, h1, h2⟩ := q.2 i d hq
        exact ⟨v, h1, h v H ι Fw.refl R h2⟩
theorem e_c {d : D} {v : V} (h : PE X a (tC v)) (r : ∀ H ι, RV g.K H ι d v) : PE X a (te g E (mC d)) :=
  PE.imp h fun σ H Q ⟨ι, e, s, R, q, h⟩ => h v H ι Fw.refl R (r H ι)
theorem e_op {op : PySem.Operator} {f : D → D → S → R D} {pos : Pos} (ho : OpR X (binaryOp op) (ro g E f)) (ha : PE X a (te g E ma)) (hb : PE X b (te g E mb)) : PE X (.BinOp a op b pos) (te g E (mOp f ma mb)) :=
  PE.imp (pe_op ho ha hb) fun σ H Q ⟨ι, e, s, R, q, h⟩ => ⟨ι, e, s, R, q, tR.bind h fun d s1 v H1 ι1 _ f1 R1 r1 h1 => ⟨ι1, e, s1, R1, q.fw f1, tR.bind h1 fun d2 s2 v2 H2 ι2 _ f2 R2 r2 h2 => ⟨ι2, d, d2, s2, R2, r1.fw f2, r2, h2⟩⟩⟩
theorem e_cmp {op : PySem.CmpOp} {f : D → D → S → R D} {pos : Pos} (ho : OpR X (compareOp op) (ro g E f)) (ha : PE X a (te g E ma)) (hb : PE X b (te g E mb)) (hm : behindInMarks op b = false) : PE X (.Compare a [op] [b] pos) (te g E (mOp f ma mb)) :=
  PE.imp (pe_cmpR ho ha hb hm) fun σ H Q ⟨ι, e, s, R, q, h⟩ => ⟨ι, e, s, R, q, tR.bind h fun d s1 v H1 ι1 _ f1 R1 r1 h1 => ⟨ι1, e, s1, R1, q.fw f1, tR.bind h1 fun d2 s2 v2 H2 ι2 _ f2 R2 r2 h2 => ⟨ι2, d, d2, s2, R2, r1.fw f2, r2, h2⟩⟩⟩
theorem e_un {op : PySem.UnaryOp} {f : D → S → R D} {pos : Pos} (ho : UnR X (unaryOp op) (ru g E f)) (ha : PE X a (te g E ma)) : PE X (.UnaryOp op a pos) (te g E (mUn f ma)) :=
  PE.imp (pe_un ho ha) fun σ H Q ⟨ι, e, s, R, q, h⟩ => ⟨ι, e, s, R, q, tR.bind h fun d s1 v H1 ι1 _ f1 R1 r1 h1 => ⟨ι1, d, s1, R1, r1, h1⟩⟩
theorem a_nil : PA X [] (ta g E mNil) := PA.imp pa_nil fun σ H Q ⟨ι, e, s, R, q, h⟩ => h [] H ι Fw.refl R .nil
theorem a_cons {es : List PySem.Expr} {mr : MA} (ha : PE X a (te g E ma)) (hr : PA X es (ta g E mr)) (hs : starEach (a :: es) X.env = (false, eval a X.env) :: starEach es X.env) : PA X (a :: es) (ta g E (mCons ma mr)) :=
  PA.imp (pa_cons ha hr hs) fun σ H Q ⟨ι, e, s, R, q, h⟩ => ⟨ι, e, s, R, q, tR.bind h fun d s1 v H1 ι1 _ f1 R1 r1 h1 => ⟨ι1, e, s1, R1, q.fw f1, tR.bind h1 fun ds s2 vs H2 ι2 _ f2 R2 r2 h2 => h2 (v :: vs) H2 ι2 Fw.refl R2 (.cons (r1.fw f2) r2)⟩⟩
theorem le_line {n : Nat} (h : n ≤ 100000) : n ≤ sizeLine := Nat.le_trans h (by decide)
theorem e_tup {es : List PySem.Expr} {mr : MA} {k : Nat} {pos : Pos} (h : PA X es (ta g E mr)) : PE X (.Tuple es k pos) (te g E (mTup mr)) :=
  PE.imp (pe_tup h) fun σ H Q ⟨ι, e, s, R, q, h⟩ => ⟨ι, e, s, R, q, tR.bind h fun ds s1 vs H1 ι1 _ f1 R1 r1 h1 => by
    by_cases hl : ds.length ≤ 100000
    · rw [if_pos hl] at h1
      exact ⟨by rw [← r1.length]; exact le_line hl, fun p hp => h1 _ _ _ (Fw.new hp) (R1.new hp) (.tup (.inl (.inl upd_same)) (r1.fw (Fw.new hp)))⟩
    · rw [if_neg hl] at h1
      exact h1.elim⟩
theorem mkL_ok {ds : List D} {vs : List V} {s : S} {H : Hp} {ι : List Addr} {Q : VK} (R : RS g.K g.T H ι s) (r : RVs g.K H ι ds vs) (h : tRe g E (mkL ds s) H ι Q) : vs.length ≤ sizeLine ∧ ∀ p, H p = none → Q (.ref p) (upd H p (.lst vs)) := by
  unfold mkL at h
  by_cases hl : ds.length ≤ 100000
  · rw [if_pos hl] at h
    refine ⟨by rw [← r.length]; exact le_line hl, fun p hp => h _ _ _ (Fw.newA hp) (R.alloc hp ⟨vs, upd_same, r.fw (Fw.newA hp)⟩) (.lst ?_)⟩
    rw [← R.len]; simp
  · rw [if_neg hl] at h
    exact h.elim
theorem e_lst {es : List PySem.Expr} {mr : MA} {pos : Pos} (h : PA X es (ta g E mr)) : PE X (.List es pos) (te g E (mLst mr)) :=
  PE.imp (pe_lst h) fun σ H Q ⟨ι, e, s, R, q, h⟩ => ⟨ι, e, s, R, q, tR.bind h fun ds s1 vs H1 ι1 _ f1 R1 r1 h1 => mkL_ok R1 r1 h1⟩
end
end EV

namespace EV
open L2 PySem PySem.Spec PyProof.Rows

theorem R.bind_bind {α β γ : Type} (m : R α) (f : α → S → R β) (k : β → S → R γ) : (m.bind f).bind k = m.bind fun x s => (f x s).bind k := by
  cases m <;> rfl
/-- what ties the reading to the place where the code runs; E: what is wanted of an exception -/
structure At (X : Cx) (g : Cfg) (E : XK) : Prop where
  K : X.K = g.K
  calm : X.calm = true
  un : X.A.units + 200 < cLine
  tk : Takes X fun c d _ H => E c d H
  po : PassesOwn (model X.prog X.w) X.A X.env X.xe

theorem tR.ite {α β : Type} {g : Cfg} {E : XK} {Rl : Hp → List Addr → α → β → Prop} {c : Prop} {d : Decidable c} {r : R α} {H : Hp} {ι : List Addr} {Q : β → Hp → Prop} (h : tR g E Rl (@ite _ c d r .no) H ι Q) : c ∧ tR g E Rl r H ι Q := by
  by_cases hc : c
  · rw [if_pos hc] at h; exact ⟨hc, h⟩
  · rw [if_neg hc] at h; exact h.elim
theorem tR.of {α β : Type} {g : Cfg} {E : XK} {Rl : Hp → List Addr → α → β → Prop} {d : α} {s : S} {H : Hp} {ι : List Addr} {Q : β → Hp → Prop} {v : β} (h : tR g E Rl (.ok d s) H ι Q) (R : RS g.K g.T H ι s) (r : Rl H ι d v) : Q v H := h v H ι Fw.refl R r

/-! ### operators by cases -/
section
variable {X : Cx} {g : Cfg} {E : XK}

def intOp (f : Int → Int → D) : D → D → S → R D
  | .int i, .int j, s => .ok (f i j) s
  | _, _, _ => .no
def intOpC (c : Int → Int → Bool) (f : Int → Int → D) : D → D → S → R D
  | .int i, .int j, s => if c i j = true then .ok (f i j) s else .no
  | _, _, _ => .no
theorem op_int {F : Value → Value → Sem Value} {f : Int → Int → Int} (h : OpR X F (rI0 fun i j => .int (f i j))) : OpR X F (ro g E (intOp fun i j => .int (f i j))) := by
  intro pins s σ H x y v u Q I rx ry ⟨ι, dx, dy, st, R, qx, qy, q⟩
  cases qx <;> cases qy <;> first | exact q.elim | skip
  exact h pins s σ H _ _ v u Q I rx ry ⟨_, _, rfl, rfl, tR.of q R (.int _)⟩
theorem op_intB {F : Value → Value → Sem Value} {f : Int → Int → Bool} (h : OpR X F (rI0 fun i j => .bl (f i j))) : OpR X F (ro g E (intOp fun i j => .bl (f i j))) := by
  intro pins s σ H x y v u Q I rx ry ⟨ι, dx, dy, st, R, qx, qy, q⟩
  cases qx <;> cases qy <;> first | exact q.elim | skip
  exact h pins s σ H _ _ v u Q I rx ry ⟨_, _, rfl, rfl, tR.of q R (.bl _)⟩
theorem op_intC {F : Value → Value → Sem Value} {C : Int → Int → Prop} {c : Int → Int → Bool} {f : Int → Int → Int} (h : OpR X F (rI C fun i j => .int (f i j))) (hc : ∀ i j, c i j = true → C i j) : OpR X F (ro g E (intOpC c fun i j => .int (f i j))) := by
  intro pins s σ H x y v u Q I rx ry ⟨ι, dx, dy, st, R, qx, qy, q⟩
  cases qx <;> cases qy <;> first | exact q.elim | skip
  obtain ⟨h1, q'⟩ := tR.ite q
  exact h pins s σ H _ _ v u Q I rx ry ⟨_, _, rfl, rfl, hc _ _ h1, tR.of q' R (.int _)⟩

/-- the list that may be read -/
def S.seq (s : S) (r : Nat) : Option (List D) := match s.get r with
  | some (.lst l) => some l
  | some (.frz l) => some l
  | _ => none
theorem RS.seq {K : PySem.W.Frag} {T : List Addr} {H : Hp} {ι : List Addr} {s : S} {r : Nat} {a : Addr} {l : List D} (R : RS K T H ι s) (h : ι[r]? = some a) (e : s.seq r = some l) : ∃ xs, SqL K H a xs ∧ RVs K H ι l xs := by
  unfold S.seq at e
  split at e
  · rename_i l' hg
    cases e
    obtain ⟨xs, h1, h2⟩ := R.at h hg
    exact ⟨xs, .inl (.inl h1), h2⟩
  · rename_i l' hg
    cases e
    obtain ⟨o, xs, h1, h2⟩ := R.at h hg
    exact ⟨xs, .inl (.inr ⟨o, h1⟩), h2⟩
  · cases e
/-- the list that may be written -/
def S.own (s : S) (r : Nat) : Option (List D) := match s.get r with
  | some (.lst l) => some l
  | _ => none
theorem S.own_get {s : S} {r : Nat} {l : List D} (e : s.own r = some l) : s.get r = some (.lst l) := by
  unfold S.own at e
  split at e
  · rename_i l' hg; cases e; exact hg
  · cases e
theorem RS.own {K : PySem.W.Frag} {T : List Addr} {H : Hp} {ι : List Addr} {s : S} {r : Nat} {a : Addr} {l : List D} (R : RS K T H ι s) (h : ι[r]? = some a) (e : s.own r = some l) : ∃ xs, H a = some (.lst xs) ∧ RVs K H ι l xs := R.at h (S.own_get e)

/-- + -/
def addL (s : S) : Option (List D) → Option (List D) → R D
  | some l, some m => mkL (l ++ m) s
  | _, _ => .no
def dAdd : D → D → S → R D
  | .int i, .int j, s => .ok (.int (i + j)) s
  | .tup l, .tup m, s => if l.length + m.length ≤ 100000 then .ok (.tup (l ++ m)) s else .no
  | .lst a, .lst b, s => addL s (s.own a) (s.own b)
  | .str x, .str y, s => if x.length + y.length ≤ 100000 then .ok (.str (x ++ y)) s else .no
  | _, _, _ => .no
theorem o_add (A : At X g E) : OpR X (binaryOp .Add) (ro g E dAdd) := by
  obtain ⟨hK, _, _, _, _⟩ := A
  intro pins s σ H x y v u Q I rx ry ⟨ι, dx, dy, st, R, qx, qy, q⟩
  cases qx with
  | int i =>
    cases qy <;> first | exact q.elim | skip
    exact op_add pins s σ H _ _ v u Q I rx ry ⟨_, _, rfl, rfl, tR.of q R (.int _)⟩
  | tup h1 h2 =>
    cases qy <;> first | exact q.elim | skip
    rename_i a l xs b m ys h3 h4
    obtain ⟨hl, q'⟩ := tR.ite q
    refine op_catA pins s σ H _ _ v u Q I rx ry ⟨a, b, xs, ys, rfl, rfl, by rw [hK]; exact h1, by rw [hK]; exact h3, ?_, fun e => ?_, fun e e2 => ?_, fun e e2 p hp => ?_⟩
    · rw [← h2.length, ← h4.length]; exact le_line hl
    · subst e
      cases h2
      exact tR.of q' R (.tup h3 h4)
    · subst e2
      cases h4
      rw [List.append_nil] at q'
      exact tR.of q' R (.tup h1 h2)
    · exact q' _ _ _ (Fw.new hp) (R.new hp) (.tup (.inl (.inl upd_same)) ((h2.append h4).fw (Fw.new hp)))
  | lst h1 =>
    cases qy <;> first | exact q.elim | skip
    rename_i r a r' b h2
    change tRe g E (addL st (st.own r) (st.own r')) H ι Q at q
    cases ea : st.own r with
    | none => rw [ea] at q; exact q.elim
    | some l =>
      cases eb : st.own r' with
      | none => rw [ea, eb] at q; exact q.elim
      | some m =>
        rw [ea, eb] at q
        obtain ⟨xs, hx, rx'⟩ := R.own h1 ea
        obtain ⟨ys, hy, ry'⟩ := R.own h2 eb
        obtain ⟨z1, z2⟩ := mkL_ok R (rx'.append ry') q
        exact op_cat pins s σ H _ _ v u Q I rx ry ⟨a, b, xs, ys, rfl, rfl, hx, hy, by rw [List.length_append] at z1; exact z1, z2⟩
  | str x =>
    cases qy <;> first | exact q.elim | skip
    obtain ⟨hl, q'⟩ := tR.ite q
    exact op_add_str pins s σ H _ _ v u Q I rx ry ⟨_, _, rfl, rfl, le_line hl, tR.of q' R (.str _)⟩
  | _ => exact q.elim

/-- * -/
def mulOk (i j : Int) : Bool := decide (i.natAbs.log2 + j.natAbs.log2 < 1000000)
def repL (s : S) (k : Int) : Option (List D) → R D
  | some l => if -(2 ^ 62) ≤ k ∧ k < 2 ^ 62 ∧ l.length * k.toNat ≤ 100000 then mkL (List.replicate k.toNat l).flatten s else .no
  | none => .no
def dMul : D → D → S → R D
  | .int i, .int j, s => if mulOk i j = true then .ok (.int (i * j)) s else .no
  | .lst a, .int k, s => repL s k (s.own a)
  | .tup l, .int k, s => if 2 ≤ k ∧ k ≤ 1000 ∧ l ≠ [] ∧ l.length ≤ 1000 then .ok (.tup (List.replicate k.toNat l).flatten) s else .no
  | _, _, _ => .no
theorem RVs.rep {K : PySem.W.Frag} {H : Hp} {ι : List Addr} {ds : List D} {vs : List V} (h : RVs K H ι ds vs) : ∀ n : Nat, RVs K H ι (List.replicate n ds).flatten (List.replicate n vs).flatten
  | 0 => .nil
  | n + 1 => by
    rw [List.replicate_succ, List.replicate_succ, List.flatten_cons, List.flatten_cons]
    exact h.append (RVs.rep h n)

theorem mul1 : (1 : Int) = 1 := rfl
theorem o_mul (A : At X g E) : OpR X (binaryOp .Mult) (ro g E dMul) := by
  obtain ⟨hK, _, _, _, _⟩ := A
  intro pins s σ H x y v u Q I rx ry ⟨ι, dx, dy, st, R, qx, qy, q⟩
  cases qx with
  | int i =>
    cases qy <;> first | exact q.elim | skip
    obtain ⟨hc, q'⟩ := tR.ite q
    exact op_mulW pins s σ H _ _ v u Q I rx ry ⟨_, _, rfl, rfl, (of_decide_eq_true hc : _ < 1000000), tR.of q' R (.int _)⟩
  | tup h1 h2 =>
    cases qy <;> first | exact q.elim | skip
    rename_i a l xs k
    obtain ⟨⟨a1, a2, a3, a4⟩, q'⟩ := tR.ite q
    have hl := h2.length
    exact op_repT pins s σ H _ _ v u Q I rx ry ⟨a, k, xs, rfl, rfl, by rw [hK]; exact h1, fun e => a3 (List.eq_nil_of_length_eq_zero (by rw [hl, e]; rfl)), a1, a2, by omega,
      fun p hp => q' _ _ _ (Fw.new hp) (R.new hp) (.tup (.inl (.inl upd_same)) ((h2.rep _).fw (Fw.new hp)))⟩
  | lst h1 =>
    cases qy <;> first | exact q.elim | skip
    rename_i r a k
    change tRe g E (repL st k (st.own r)) H ι Q at q
    cases ea : st.own r with
    | none => rw [ea] at q; exact q.elim
    | some l =>
      rw [ea] at q
      obtain ⟨⟨a1, a2, a3⟩, q'⟩ := tR.ite q
      obtain ⟨xs, hx, rx'⟩ := R.own h1 ea
      obtain ⟨z1, z2⟩ := mkL_ok R (rx'.rep k.toNat) q'
      have hl := rx'.length
      exact op_rep pins s σ H _ _ v u Q I rx ry ⟨a, k, xs, rfl, rfl, hx, by omega, by omega, by rw [← hl]; exact le_line a3, z2⟩
  | _ => exact q.elim

def divOk (_ j : Int) : Bool := decide (j ≠ 0 ∧ j.natAbs.log2 < 9000)
theorem op_fdivG : OpR X (binaryOp .FloorDiv) (rI (fun _ j => j ≠ 0 ∧ j.natAbs.log2 < 9000) fun i j => .int (i.fdiv j)) := opI fun i j _ _ _ _ _ hc q =>
  floordiv_int hc.1 q (.inl (PyProof.noPylong_of_log2 hc.2))
theorem o_sub : OpR X (binaryOp .Sub) (ro g E (intOp fun i j => .int (i - j))) := op_int op_sub
theorem o_fdiv : OpR X (binaryOp .FloorDiv) (ro g E (intOpC divOk fun i j => .int (i.fdiv j))) := op_intC op_fdivG fun _ _ h => of_decide_eq_true h
def modOk (_ j : Int) : Bool := decide (j ≠ 0)
theorem o_mod : OpR X (binaryOp .Mod) (ro g E (intOpC modOk fun i j => .int (i.fmod j))) := op_intC op_modN fun _ _ h => of_decide_eq_true h
def powOk (i j : Int) : Bool := decide (0 ≤ j ∧ j ≤ 1000000 ∧ i.natAbs < 2 ^ 64)
theorem o_pow : OpR X (binaryOp .Pow) (ro g E (intOpC powOk fun i j => .int (i ^ j.toNat))) := op_intC op_pow fun i j h => (of_decide_eq_true h : 0 ≤ j ∧ j ≤ 1000000 ∧ i.natAbs < 2 ^ 64)
def shrOk (_ j : Int) : Bool := decide (0 ≤ j)
theorem o_shr : OpR X (binaryOp .RShift) (ro g E (intOpC shrOk fun i j => .int (i / 2 ^ j.toNat))) := op_intC op_shr fun _ _ h => of_decide_eq_true h
theorem o_and : OpR X (binaryOp .BitAnd) (ro g E (intOp fun i j => .int (Builtin.bitAnd i j))) := op_int op_and
def dNeg : D → S → R D
  | .int i, s => .ok (.int (-i)) s
  | _, _ => .no
theorem o_neg : UnR X (unaryOp .USub) (ru g E dNeg) := by
  intro pins s σ H x v Q I rx ⟨ι, dx, st, R, qx, q⟩
  cases qx <;> first | exact q.elim | skip
  exact un_neg pins s σ H _ v Q I rx ⟨_, rfl, tR.of q R (.int _)⟩
/-- is None -/
def D.isNon : D → Bool
  | .non => true
  | _ => false
theorem isNon_of {K : PySem.W.Frag} {H : Hp} {ι : List Addr} {d : D} {v : V} (h : RV K H ι d v) : decide (v = V.non) = d.isNon := by
  cases h <;> simp [D.isNon]
def dIs : D → D → S → R D
  | x, .non, s => .ok (.bl x.isNon) s
  | _, _, _ => .no
def dIsN : D → D → S → R D
  | x, .non, s => .ok (.bl (!x.isNon)) s
  | _, _, _ => .no
theorem o_is : OpR X (compareOp .Is) (ro g E dIs) := by
  intro pins s σ H x y v u Q I rx ry ⟨ι, dx, dy, st, R, qx, qy, q⟩
  cases qy <;> first | (cases qx <;> exact q.elim) | skip
  have q' : tRe g E (.ok (.bl dx.isNon) st) H ι Q := by cases dx <;> exact q
  exact op_isN pins s σ H _ _ v u Q I rx ry ⟨rfl, by rw [isNon_of qx]; exact tR.of q' R (.bl _)⟩
theorem o_isN : OpR X (compareOp .IsNot) (ro g E dIsN) := by
  intro pins s σ H x y v u Q I rx ry ⟨ι, dx, dy, st, R, qx, qy, q⟩
  cases qy <;> first | (cases qx <;> exact q.elim) | skip
  have q' : tRe g E (.ok (.bl (!dx.isNon)) st) H ι Q := by cases dx <;> exact q
  exact op_notN pins s σ H _ _ v u Q I rx ry ⟨rfl, by rw [isNon_of qx]; exact tR.of q' R (.bl _)⟩

/-! ### data: what == and < see -/
def allO {α : Type} : List (Option α) → Option (List α)
  | [] => some []
  | some a :: r => match allO r with
    | some l => some (a :: l)
    | none => none
  | none :: _ => none
def toPy (s : S) : Nat → D → Option PyData
  | 0, _ => none
  | _ + 1, .non => some .none
  | _ + 1, .bl b => some (.bool b)
  | _ + 1, .int i => some (.int i)
  | _ + 1, .str x => if PyData.strOk x = true then some (.str x) else none
  | n + 1, .tup l => (allO (l.map (toPy s n))).map .tuple
  | n + 1, .lst r => match s.seq r with
    | some l => (allO (l.map (toPy s n))).map .list
    | none => none
  | _ + 1, .dct _ => none
  | _ + 1, .ty _ => none
  | _ + 1, .exo _ => none
theorem allO_dp {K : PySem.W.Frag} {H : Hp} {ι : List Addr} {f : D → Option PyData} (hf : ∀ d v p, RV K H ι d v → f d = some p → Dp K H v p) : ∀ {l : List D} {xs : List V}, RVs K H ι l xs → ∀ ps, allO (l.map f) = some ps → DpAll K H xs ps
  | _, _, .nil, ps, e => by
    cases e
    exact .nil
  | _, _, .cons (d := d) h hs, ps, e => by
    rw [List.map_cons] at e
    cases hd : f d with
    | none => rw [hd] at e; cases e
    | some a =>
      rw [hd] at e
      unfold allO at e
      split at e
      · rename_i l hl
        cases e
        exact .cons (hf _ _ _ h hd) (allO_dp hf hs _ hl)
      · cases e
theorem toPy_dp {K : PySem.W.Frag} {T : List Addr} {H : Hp} {ι : List Addr} {s : S} (R : RS K T H ι s) : ∀ (n : Nat) (d : D) (v : V) (p : PyData), RV K H ι d v → toPy s n d = some p → Dp K H v p
  | 0, _, _, _, _, e => by cases e
  | n + 1, d, v, p, h, e => by
    cases h with
    | non => cases e; exact .non
    | bl b => cases e; exact .bl b
    | int i => cases e; exact .int i
    | str x =>
      unfold toPy at e
      split at e
      · cases e; exact .str x
      · cases e
    | @tup a l xs h1 h2 =>
      unfold toPy at e
      obtain ⟨ps, e1, rfl⟩ := Option.map_eq_some_iff.mp e
      exact .tup h1 (allO_dp (toPy_dp R n) h2 ps e1)
    | @lst r a h1 =>
      unfold toPy at e
      split at e
      · rename_i l hl
        obtain ⟨ps, e1, rfl⟩ := Option.map_eq_some_iff.mp e
        obtain ⟨xs, hx, hr⟩ := R.seq h1 hl
        exact .lst hx (allO_dp (toPy_dp R n) hr ps e1)
      · cases e
    | dct _ => cases e
    | ty _ => cases e
    | exo _ _ => cases e
theorem allO_shape {f : D → Option PyData} {n : Nat} (hf : ∀ d p, f d = some p → p.canLay0 = true ∧ p.depth ≤ n) : ∀ {l : List D} {ps : List PyData}, allO (l.map f) = some ps → PyData.canLayAll0 ps = true ∧ PyData.depthAll ps ≤ n
  | [], ps, e => by cases e; exact ⟨by simp [PyData.canLayAll0], by simp [PyData.depthAll]⟩
  | d :: l, ps, e => by
    rw [List.map_cons] at e
    cases hd : f d with
    | none => rw [hd] at e; cases e
    | some a =>
      rw [hd] at e
      unfold allO at e
      split at e
      · rename_i l' hl
        cases e
        obtain ⟨h1, h2⟩ := hf _ _ hd
        obtain ⟨h3, h4⟩ := allO_shape hf hl
        exact ⟨by simp [PyData.canLayAll0, h1, h3], by simp [PyData.depthAll]; omega⟩
      · cases e
theorem toPy_shape {s : S} : ∀ (n : Nat) (d : D) (p : PyData), toPy s n d = some p → p.canLay0 = true ∧ p.depth ≤ n
  | 0, _, _, e => by cases e
  | n + 1, d, p, e => by
    cases d with
    | non => cases e; exact ⟨by simp [PyData.canLay0], by simp [PyData.depth]⟩
    | bl b => cases e; exact ⟨by simp [PyData.canLay0], by simp [PyData.depth]⟩
    | int b => cases e; exact ⟨by simp [PyData.canLay0], by simp [PyData.depth]⟩
    | str x =>
      unfold toPy at e
      split at e
      · rename_i hx; cases e; exact ⟨by simp [PyData.canLay0, hx], by simp [PyData.depth]⟩
      · cases e
    | tup l =>
      unfold toPy at e
      obtain ⟨ps, e1, rfl⟩ := Option.map_eq_some_iff.mp e
      obtain ⟨h1, h2⟩ := allO_shape (toPy_shape n) e1
      exact ⟨by simpa [PyData.canLay0] using h1, by simp [PyData.depth]; omega⟩
    | lst r =>
      unfold toPy at e
      split at e
      · rename_i l hl
        obtain ⟨ps, e1, rfl⟩ := Option.map_eq_some_iff.mp e
        obtain ⟨h1, h2⟩ := allO_shape (toPy_shape n) e1
        exact ⟨by simpa [PyData.canLay0] using h1, by simp [PyData.depth]; omega⟩
      · cases e
    | dct r => cases e
    | ty r => cases e
    | exo _ => cases e
theorem toPy_shaped {s : S} {d : D} {p : PyData} (e : toPy s 16 d = some p) : SeqAt.shaped p = true := by
  obtain ⟨h1, h2⟩ := toPy_shape 16 d p e
  unfold SeqAt.shaped
  rw [h1, Bool.true_and]
  exact decide_eq_true (by omega)
def eqO : Option PyData → Option PyData → S → Bool → R D
  | some p, some q, s, n => .ok (.bl (if n then !PyData.eqv p q else PyData.eqv p q)) s
  | _, _, _, _ => .no
def dEq (n : Bool) : D → D → S → R D
  | .int i, .int j, s => .ok (.bl (if n then !(i == j) else i == j)) s
  | x, y, s => eqO (toPy s 16 x) (toPy s 16 y) s n
theorem dEq_data {n : Bool} {x y : D} {s : S} {H : Hp} {ι : List Addr} {Q : VK} {vx vy : V} (R : RS g.K g.T H ι s) (qx : RV g.K H ι x vx) (qy : RV g.K H ι y vy) (q : tRe g E (dEq n x y s) H ι Q) :
    ∃ p r, Dp g.K H vx p ∧ Dp g.K H vy r ∧ SeqAt.shaped p = true ∧ SeqAt.shaped r = true ∧ Q (.bl (if n then !PyData.eqv p r else PyData.eqv p r)) H := by
  have gen : tRe g E (eqO (toPy s 16 x) (toPy s 16 y) s n) H ι Q → ∃ p r, Dp g.K H vx p ∧ Dp g.K H vy r ∧ SeqAt.shaped p = true ∧ SeqAt.shaped r = true ∧ Q (.bl (if n then !PyData.eqv p r else PyData.eqv p r)) H := fun q => by
    cases ex : toPy s 16 x with
    | none => rw [ex] at q; exact q.elim
    | some p =>
      cases ey : toPy s 16 y with
      | none => rw [ex, ey] at q; exact q.elim
      | some r =>
        rw [ex, ey] at q
        exact ⟨p, r, toPy_dp R 16 _ _ _ qx ex, toPy_dp R 16 _ _ _ qy ey, toPy_shaped ex, toPy_shaped ey, tR.of q R (.bl _)⟩
  cases qx with
  | int i =>
    cases qy with
    | int j =>
      refine ⟨.int i, .int j, .int i, .int j, by simp [SeqAt.shaped, PyData.canLay0, PyData.depth], by simp [SeqAt.shaped, PyData.canLay0, PyData.depth], ?_⟩
      have e : PyData.eqv (.int i) (.int j) = (i == j) := by simp [PyData.eqv]
      rw [e]
      exact tR.of q R (.bl _)
    | _ => exact gen q
  | _ => exact gen q
theorem o_eq (A : At X g E) : OpR X (compareOp .Eq) (ro g E (dEq false)) := by
  intro pins s σ H x y v u Q I rx ry ⟨ι, dx, dy, st, R, qx, qy, q⟩
  obtain ⟨p, r, h1, h2, h3, h4, h5⟩ := dEq_data R qx qy q
  have hu := A.un
  exact op_eqD (by omega) pins s σ H _ _ v u Q I rx ry ⟨p, r, by rw [A.K]; exact h1, by rw [A.K]; exact h2, h3, h4, h5⟩
theorem o_ne (A : At X g E) : OpR X (compareOp .NotEq) (ro g E (dEq true)) := by
  intro pins s σ H x y v u Q I rx ry ⟨ι, dx, dy, st, R, qx, qy, q⟩
  obtain ⟨p, r, h1, h2, h3, h4, h5⟩ := dEq_data R qx qy q
  have hu := A.un
  exact op_neD (by omega) pins s σ H _ _ v u Q I rx ry ⟨p, r, by rw [A.K]; exact h1, by rw [A.K]; exact h2, h3, h4, h5⟩

/-! ### truth -/
def truL : Option (List D) → Option Bool
  | some l => some (!l.isEmpty)
  | none => none
def truD : D → S → Option Bool
  | .non, _ => some false
  | .bl b, _ => some b
  | .int i, _ => some (i != 0)
  | .tup l, _ => some (!l.isEmpty)
  | .lst r, s => truL (s.seq r)
  | .str _, _ => none
  | .dct _, _ => none
  | .ty _, _ => none
  | .exo _, _ => none
theorem RVs.isEmpty {K : PySem.W.Frag} {H : Hp} {ι : List Addr} {l : List D} {xs : List V} (h : RVs K H ι l xs) : l.isEmpty = xs.isEmpty := by
  cases h <;> rfl
theorem tru_of {s : S} {H : Hp} {ι : List Addr} {d : D} {v : V} {k : Bool} (R : RS g.K g.T H ι s) (h : RV g.K H ι d v) (e : truD d s = some k) : TruV g.K v H k := by
  cases h with
  | non => cases e; rfl
  | bl b => cases e; rfl
  | int i => cases e; rfl
  | str x => cases e
  | tup h1 h2 => cases e; exact .inr (.inl ⟨_, h1, by rw [h2.isEmpty]⟩)
  | @lst r a h1 =>
    change truL (s.seq r) = some k at e
    cases hl : s.seq r with
    | none => rw [hl] at e; cases e
    | some l =>
      rw [hl] at e
      cases e
      obtain ⟨xs, hx, hr⟩ := R.seq h1 hl
      exact .inl ⟨xs, hx, by rw [hr.isEmpty]⟩
  | dct _ => cases e
  | ty _ => cases e
  | exo _ _ => cases e
/-- go on by a value's truth -/
def onTru {α : Type} (d : D) (s : S) (f : Bool → R α) : R α := match truD d s with
  | some b => f b
  | none => .no
theorem onTru_ok {α β : Type} {Rl : Hp → List Addr → α → β → Prop} {d : D} {s : S} {f : Bool → R α} {H : Hp} {ι : List Addr} {Q : β → Hp → Prop} {v : V} (R : RS g.K g.T H ι s) (h : RV g.K H ι d v) (q : tR g E Rl (onTru d s f) H ι Q) : ∃ k, TruV g.K v H k ∧ tR g E Rl (f k) H ι Q := by
  unfold onTru at q
  cases e : truD d s with
  | none => rw [e] at q; exact q.elim
  | some k => rw [e] at q; exact ⟨k, tru_of R h e, q⟩
def mNot (a : ME) : ME := fun F e s => (a F e s).bind fun x s1 => onTru x s1 fun b => .ok (.bl (!b)) s1
def mAnd (a b : ME) : ME := fun F e s => (a F e s).bind fun x s1 => onTru x s1 fun k => if k then b F e s1 else .ok x s1
def mOr (a b : ME) : ME := fun F e s => (a F e s).bind fun x s1 => onTru x s1 fun k => if k then .ok x s1 else b F e s1
def mIf (c : MT) (a b : ME) : ME := fun F e s => (c F e s).bind fun k s1 => if k then a F e s1 else b F e s1
def tTru (a : ME) : MT := fun F e s => (a F e s).bind fun x s1 => onTru x s1 fun b => .ok b s1
def asB : D → S → R Bool
  | .bl b, s => .ok b s
  | _, _ => .no
def tBl (a : ME) : MT := fun F e s => (a F e s).bind asB
def tAndM (a b : MT) : MT := fun F e s => (a F e s).bind fun k s1 => if k then b F e s1 else .ok false s1
def tOrM (a b : MT) : MT := fun F e s => (a F e s).bind fun k s1 => if k then .ok true s1 else b F e s1
def tNotM (a : MT) : MT := fun F e s => (a F e s).bind fun k s1 => .ok (!k) s1
def tNoM : MT := fun _ _ _ => .no
variable {a b c : PySem.Expr} {ma mb : ME} {mt mu : MT} {rest : List PySem.Expr} {pos : Pos}
theorem e_not (A : At X g E) (ha : PE X a (te g E ma)) : PE X (.UnaryOp .Not a pos) (te g E (mNot ma)) :=
  PE.imp (pe_notT ha) fun σ H Q ⟨ι, e, s, R, q, h⟩ => ⟨ι, e, s, R, q, tR.bind h fun d s1 v H1 ι1 _ f1 R1 r1 h1 => by
    obtain ⟨k, h2, h3⟩ := onTru_ok R1 r1 h1
    exact ⟨k, by rw [A.K]; exact h2, tR.of h3 R1 (.bl _)⟩⟩
theorem e_one {op : PySem.BoolOp} (ha : PE X a (te g E ma)) : PE X (.BoolOp op [a] pos) (te g E ma) := pe_one ha
theorem e_and (A : At X g E) (ha : PE X a (te g E ma)) (hb : PE X (.BoolOp .And (b :: rest) pos) (te g E mb)) : PE X (.BoolOp .And (a :: b :: rest) pos) (te g E (mAnd ma mb)) :=
  PE.imp (pe_andT ha hb) fun σ H Q ⟨ι, e, s, R, q, h⟩ => ⟨ι, e, s, R, q, tR.bind h fun d s1 v H1 ι1 _ f1 R1 r1 h1 => by
    obtain ⟨k, h2, h3⟩ := onTru_ok R1 r1 h1
    refine ⟨k, by rw [A.K]; exact h2, ?_⟩
    cases k with
    | true => exact ⟨ι1, e, s1, R1, q.fw f1, h3⟩
    | false => exact tR.of h3 R1 r1⟩
theorem e_or (A : At X g E) (ha : PE X a (te g E ma)) (hb : PE X (.BoolOp .Or (b :: rest) pos) (te g E mb)) : PE X (.BoolOp .Or (a :: b :: rest) pos) (te g E (mOr ma mb)) :=
  PE.imp (pe_orT ha hb) fun σ H Q ⟨ι, e, s, R, q, h⟩ => ⟨ι, e, s, R, q, tR.bind h fun d s1 v H1 ι1 _ f1 R1 r1 h1 => by
    obtain ⟨k, h2, h3⟩ := onTru_ok R1 r1 h1
    refine ⟨k, by rw [A.K]; exact h2, ?_⟩
    cases k with
    | false => exact ⟨ι1, e, s1, R1, q.fw f1, h3⟩
    | true => exact tR.of h3 R1 r1⟩
theorem e_if (hc : PT X c (tt g E mt)) (ha : PE X a (te g E ma)) (hb : PE X b (te g E mb)) : PE X (.IfExp c a b pos) (te g E (mIf mt ma mb)) :=
  PE.imp (pe_ifExp hc ha hb) fun σ H Q ⟨ι, e, s, R, q, h⟩ => ⟨ι, e, s, R, q, tR.bind h fun d s1 v H1 ι1 _ f1 R1 r1 h1 => by
    subst r1
    cases d with
    | true => exact ⟨ι1, e, s1, R1, q.fw f1, h1⟩
    | false => exact ⟨ι1, e, s1, R1, q.fw f1, h1⟩⟩
theorem t_tru (A : At X g E) (ha : PE X a (te g E ma)) (he : ∀ whole, isTrue a X.env whole = (do let v ← whole; standAt a.pos; holding [v] (truthy v))) : PT X a (tt g E (tTru ma)) :=
  PT.imp (pt_truth ha he) fun σ H Q ⟨ι, e, s, R, q, h⟩ => ⟨ι, e, s, R, q, tR.bind h fun d s1 v H1 ι1 _ f1 R1 r1 h1 => by
    obtain ⟨k, h2, h3⟩ := onTru_ok R1 r1 h1
    exact ⟨k, by rw [A.K]; exact h2, tR.of h3 R1 rfl⟩⟩
theorem asB_ok {d : D} {s : S} {H : Hp} {ι : List Addr} {Q : Bool → Hp → Prop} {v : V} (R : RS g.K g.T H ι s) (h : RV g.K H ι d v) (q : tRt g E (asB d s) H ι Q) : ∃ k, v = .bl k ∧ Q k H := by
  cases h <;> first | exact q.elim | skip
  exact ⟨_, rfl, tR.of q R rfl⟩
theorem t_cmp {op : PySem.CmpOp} {f : D → D → S → R D} (ho : OpR X (compareOp op) (ro g E f)) (ha : PE X a (te g E ma)) (hb : PE X b (te g E mb)) (hm : behindInMarks op b = false) : PT X (.Compare a [op] [b] pos) (tt g E (tBl (mOp f ma mb))) :=
  PT.imp (pt_cmpR ho ha hb hm) fun σ H Q ⟨ι, e, s, R, q, h⟩ => ⟨ι, e, s, R, q, by
    have h' : tRt g E ((ma g.F e s).bind fun x s1 => ((mb g.F e s1).bind fun y s2 => (f x y s2).bind asB)) H ι Q := by
      have := h
      unfold tBl mOp at this
      simp only [EV.R.bind_bind] at this
      exact this
    exact tR.bind h' fun d s1 v H1 ι1 _ f1 R1 r1 h1 => ⟨ι1, e, s1, R1, q.fw f1, tR.bind h1 fun d2 s2 v2 H2 ι2 _ f2 R2 r2 h2 => ⟨ι2, d, d2, s2, R2, r1.fw f2, r2, tR.bind h2 fun d3 s3 v3 H3 ι3 _ f3 R3 r3 h3 => asB_ok R3 r3 h3⟩⟩⟩
theorem t_not (ha : PT X a (tt g E mt)) : PT X (.UnaryOp .Not a pos) (tt g E (tNotM mt)) :=
  PT.imp (pt_not ha) fun σ H Q ⟨ι, e, s, R, q, h⟩ => ⟨ι, e, s, R, q, tR.bind h fun d s1 v H1 ι1 _ f1 R1 r1 h1 => by
    subst r1
    exact tR.of h1 R1 rfl⟩
theorem t_and1 (ha : PT X a (tt g E mt)) : PW X (.BoolOp .And [a] pos) (tt g E mt) := pw_and1 ha
theorem t_or1 (ha : PT X a (tt g E mt)) : PW X (.BoolOp .Or [a] pos) (tt g E mt) := pw_or1 ha
theorem t_and (ha : PT X a (tt g E mt)) (hb : PW X (.BoolOp .And (b :: rest) pos) (tt g E mu)) : PW X (.BoolOp .And (a :: b :: rest) pos) (tt g E (tAndM mt mu)) :=
  PW.imp (pw_and ha hb) fun σ H Q ⟨ι, e, s, R, q, h⟩ => ⟨ι, e, s, R, q, tR.bind h fun d s1 v H1 ι1 _ f1 R1 r1 h1 => by
    subst r1
    cases d with
    | true => exact ⟨ι1, e, s1, R1, q.fw f1, h1⟩
    | false => exact tR.of h1 R1 rfl⟩
theorem t_or (ha : PT X a (tt g E mt)) (hb : PW X (.BoolOp .Or (b :: rest) pos) (tt g E mu)) : PW X (.BoolOp .Or (a :: b :: rest) pos) (tt g E (tOrM mt mu)) :=
  PW.imp (pw_or ha hb) fun σ H Q ⟨ι, e, s, R, q, h⟩ => ⟨ι, e, s, R, q, tR.bind h fun d s1 v H1 ι1 _ f1 R1 r1 h1 => by
    subst r1
    cases d with
    | false => exact ⟨ι1, e, s1, R1, q.fw f1, h1⟩
    | true => exact tR.of h1 R1 rfl⟩
theorem t_no : PT X a (tt g E tNoM) := ⟨fun _ _ _ _ _ _ h => by obtain ⟨_, _, _, _, _, h⟩ := h; exact h.elim⟩
end
end EV

namespace EV
open L2 PySem PySem.Spec PyProof.Rows

/-! ### statements -/
def tRs (g : Cfg) (E : XK) (r : R Fl) (H : Hp) (ι : List Addr) (D : Ends) : Prop := match r with
  | .ok (.nx e) s => ∀ σ' H' ι', Fw g.K H ι H' ι' → RS g.K g.T H' ι' s → RE g.K H' ι' e σ' → D.nx σ' H'
  | .ok (.rt d) s => ∀ v H' ι', Fw g.K H ι H' ι' → RS g.K g.T H' ι' s → RV g.K H' ι' d v → D.rt v H'
  | .ok (.bk e) s => ∀ σ' H' ι', Fw g.K H ι H' ι' → RS g.K g.T H' ι' s → RE g.K H' ι' e σ' → D.bk σ' H'
  | .ok (.ct e) s => ∀ σ' H' ι', Fw g.K H ι H' ι' → RS g.K g.T H' ι' s → RE g.K H' ι' e σ' → D.ct σ' H'
  | .ex x s => ∀ c od H' ι', Fw g.K H ι H' ι' → RS g.K g.T H' ι' s → g.RX H' ι' x c od → E c od H'
  | .no => False
def ts (g : Cfg) (E : XK) (m : MS) : TS := fun D σ H => ∃ ι e s, RS g.K g.T H ι s ∧ RE g.K H ι e σ ∧ tRs g E (m g.F e s) H ι D
section
variable {g : Cfg} {E : XK} {H H' : Hp} {ι ι' : List Addr} {D D' : Ends}
theorem tRs.fw {r : R Fl} (f : Fw g.K H ι H' ι') (h : tRs g E r H ι D) : tRs g E r H' ι' D := by
  cases r with
  | ok d s => cases d <;> exact fun v H2 ι2 f2 => h v H2 ι2 (f.trans f2)
  | ex x s => exact fun c od H2 ι2 f2 => h c od H2 ι2 (f.trans f2)
  | no => exact h
/-- an expression, then the rest -/
theorem tRs.bind {α β : Type} {Rl : Hp → List Addr → α → β → Prop} {r : R α} {f : α → S → R Fl} (h : tRs g E (r.bind f) H ι D) {Q' : β → Hp → Prop}
    (k : ∀ d s v H' ι', r = .ok d s → Fw g.K H ι H' ι' → RS g.K g.T H' ι' s → Rl H' ι' d v → tRs g E (f d s) H' ι' D → Q' v H') : tR g E Rl r H ι Q' := by
  cases r with
  | ok d s => exact fun v H2 ι2 f2 a b => k d s v H2 ι2 rfl f2 a b (h.fw f2)
  | ex x s => exact h
  | no => exact h
theorem tRs.ite {c : Prop} {d : Decidable c} {r : R Fl} (h : tRs g E (@ite _ c d r .no) H ι D) : c ∧ tRs g E r H ι D := by
  by_cases hc : c
  · rw [if_pos hc] at h; exact ⟨hc, h⟩
  · rw [if_neg hc] at h; exact h.elim
/-- what a block does -/
def seqF (r : R Fl) (k : En → S → R Fl) : R Fl := match r with
  | .ok (.nx e) s => k e s
  | r => r
def sSeq (a b : MS) : MS := fun F e s => seqF (a F e s) fun e1 s1 => b F e1 s1
def sNil : MS := fun _ e s => .ok (.nx e) s
def sRet (a : ME) : MS := fun F e s => (a F e s).bind fun d s1 => .ok (.rt d) s1
def sRetN : MS := fun _ _ s => .ok (.rt .non) s
def sDrop (a : ME) : MS := fun F e s => (a F e s).bind fun _ s1 => .ok (.nx e) s1
def sIf (c : MT) (a b : MS) : MS := fun F e s => (c F e s).bind fun k s1 => if k then a F e s1 else b F e s1
def sBk : MS := fun _ e s => .ok (.bk e) s
def sCt : MS := fun _ e s => .ok (.ct e) s
def sNo : MS := fun _ _ _ => .no
end
/-- targets -/
abbrev MG := FT → En → D → S → R En
def gNm (i : Nat) : MG := fun _ e d s => .ok (e.set i (some d)) s
def gNo : MG := fun _ _ _ _ => .no
theorem wipe_in {σ : L2.St} {j : Nat} : ∀ {vs : List Nat}, j ∈ vs → (wipe σ vs)[j]? = if j < σ.length then some none else none
  | [], h => by simp at h
  | v :: vs, h => by
    unfold wipe
    by_cases hv : v = j
    · subst hv
      rw [List.getElem?_set, if_pos rfl, wipe_length]
    · rw [List.getElem?_set_ne hv]
      exact wipe_in ((List.mem_cons.mp h).resolve_left fun e => hv e.symm)
theorem wipe_set {σ : L2.St} {i : Nat} {x : Option V} {vs : List Nat} (h : i ∈ vs) : wipe (σ.set i x) vs = wipe σ vs := by
  refine List.ext_getElem? fun j => ?_
  by_cases hj : j ∈ vs
  · rw [wipe_in hj, wipe_in hj, List.length_set]
  · rw [wipe_out hj, wipe_out hj, List.getElem?_set_ne (fun e : i = j => hj (e ▸ h))]
/-- vs: the slots that may be set -/
def gs (g : Cfg) (E : XK) (vs : List Nat) (m : MG) : TG := fun v σ H Q => ∃ ι e s d, RS g.K g.T H ι s ∧ RE g.K H ι e σ ∧ RV g.K H ι d v ∧ tR g E (fun H' ι' e' σ' => RE g.K H' ι' e' σ' ∧ wipe σ' vs = wipe σ vs) (m g.F e d s) H ι Q
abbrev MGs := FT → En → List D → S → R En
def gsNil : MGs := fun _ e ds s => match ds with
  | [] => .ok e s
  | _ => .no
def gsCons (m : MG) (r : MGs) : MGs := fun F e ds s => match ds with
  | d :: ds => (m F e d s).bind fun e1 s1 => r F e1 ds s1
  | [] => .no
def gss (g : Cfg) (E : XK) (ws : List Nat) (m : MGs) : TGs := fun vs σ H Q => ∃ ι e s ds, RS g.K g.T H ι s ∧ RE g.K H ι e σ ∧ RVs g.K H ι ds vs ∧ tR g E (fun H' ι' e' σ' => RE g.K H' ι' e' σ' ∧ wipe σ' ws = wipe σ ws) (m g.F e ds s) H ι Q
def unpk (n : Nat) (d : D) (s : S) : R (List D) := match d with
  | .tup ds => if ds.length = n then .ok ds s else .no
  | .lst r => match s.seq r with
    | some ds => if ds.length = n then .ok ds s else .no
    | none => .no
  | _ => .no
def gTp (n : Nat) (m : MGs) : MG := fun F e d s => (unpk n d s).bind fun ds s1 => m F e ds s1
def sAsg (a : ME) (m : MG) : MS := fun F e s => (a F e s).bind fun d s1 => (m F e d s1).bind fun e1 s2 => .ok (.nx e1) s2

section
variable {X : Cx} {g : Cfg} {E : XK} {a b : PySem.Expr} {ma mb : ME} {mt : MT} {pos : Pos} {st : PySem.Stmt} {rest : List PySem.Stmt} {m mr : MS} {ws : List Nat}
theorem PG.imp {e : PySem.Expr} {t t' : TG} (h : PG X e t) (k : ∀ v σ H Q, t' v σ H Q → t v σ H Q) : PG X e t' := ⟨fun pins s σ H v u Q I r q => h.run pins s σ H v u Q I r (k v σ H Q q)⟩
theorem PGs.imp {e : List PySem.Expr} {t t' : TGs} (h : PGs X e t) (k : ∀ v σ H Q, t' v σ H Q → t v σ H Q) : PGs X e t' := ⟨fun pins s σ H v u Q I r q => h.run pins s σ H v u Q I r (k v σ H Q q)⟩
theorem PG.or {e : PySem.Expr} {t t' : TG} (h : PG X e t) (h' : PG X e t') : PG X e (fun v σ H Q => t v σ H Q ∨ t' v σ H Q) := ⟨fun pins s σ H v u Q I r q => by
  rcases q with q | q
  · exact h.run pins s σ H v u Q I r q
  · exact h'.run pins s σ H v u Q I r q⟩
theorem g_name {i : Nat} {x : Str} (hw : i ∈ ws) (hN : X.N.Nodup) (hi : X.N[i]? = some x) (hx : Loc X.env.scope x) (hf : X.fn x = true ∨ X.env.scope.names.lookup x = some .local) : PG X (.Name x pos) (gs g E ws (gNm i)) :=
  PG.imp (pg_name hN hi hx hf) fun v σ H Q ⟨ι, e, s, d, R, q, r, h⟩ => h _ H ι Fw.refl R ⟨q.set r i, wipe_set hw⟩
theorem g_no : PG X a (gs g E ws gNo) := ⟨fun _ _ _ _ _ _ _ _ _ h => by obtain ⟨_, _, _, _, _, _, _, h⟩ := h; exact h.elim⟩
theorem gs_nil : PGs X [] (gss g E ws gsNil) := PGs.imp pgs_nil fun v σ H Q ⟨ι, e, s, d, R, q, r, h⟩ => by
  cases r with
  | nil => exact ⟨rfl, h _ H ι Fw.refl R ⟨q, rfl⟩⟩
  | cons _ _ => exact h.elim
theorem gs_cons {es : List PySem.Expr} {m : MG} {r : MGs} (h1 : PG X a (gs g E ws m)) (h2 : PGs X es (gss g E ws r)) (hs : (assignEach (a :: es) X.env).map (·.2) = assign a X.env :: (assignEach es X.env).map (·.2)) : PGs X (a :: es) (gss g E ws (gsCons m r)) :=
  PGs.imp (pgs_cons h1 h2 hs) fun v σ H Q ⟨ι, e, s, ds, R, q, rv, h⟩ => by
    cases rv with
    | nil => exact h.elim
    | @cons d v ds vs r1 r2 =>
      exact ⟨v, vs, rfl, ι, e, s, d, R, q, r1, tR.bind h fun e1 s1 σ1 H1 ι1 _ f1 R1 q1 h1 => ⟨ι1, e1, s1, ds, R1, q1.1, r2.fw f1, h1.rel fun H' ι' e' σ' k => ⟨k.1, k.2.trans q1.2⟩⟩⟩
theorem g_tup (A : At X g E) {es : List PySem.Expr} {k n : Nat} {m : MGs} (h : PGs X es (gss g E ws m)) (hn : (assignEach es X.env).length = n) (hst : (assignEach es X.env).findIdx? (·.1) = none) : PG X (.Tuple es k pos) (gs g E ws (gTp n m)) :=
  PG.imp (PG.or (pg_tup A.calm h hn hst) (pg_lst A.calm h hn hst)) fun v σ H Q ⟨ι, e, s, d, R, q, r, h⟩ => by
    cases r with
    | @tup a ds xs r1 r2 =>
      have h' : tR g E _ ((if ds.length = n then EV.R.ok ds s else EV.R.no).bind fun ds s1 => m g.F e ds s1) H ι Q := h
      by_cases hl : ds.length = n
      · rw [if_pos hl] at h'
        exact .inl ⟨a, xs, rfl, by rw [A.K]; exact r1, by rw [← r2.length]; exact hl, ι, e, s, ds, R, q, r2, h'⟩
      · rw [if_neg hl] at h'
        exact h'.elim
    | @lst r a r1 =>
      have h' : tR g E _ ((match s.seq r with | some ds => (if ds.length = n then EV.R.ok ds s else EV.R.no) | none => EV.R.no).bind fun ds s1 => m g.F e ds s1) H ι Q := h
      cases hs : s.seq r with
      | none => rw [hs] at h'; exact h'.elim
      | some ds =>
        rw [hs] at h'
        by_cases hl : ds.length = n
        · simp only [if_pos hl] at h'
          obtain ⟨xs, hx, hr⟩ := R.seq r1 hs
          exact .inr ⟨a, xs, rfl, by rw [A.K]; exact hx, by rw [← hr.length]; exact hl, ι, e, s, ds, R, q, hr, h'⟩
        · simp only [if_neg hl] at h'
          exact h'.elim
    | _ => exact h.elim

theorem s_nil : PSs X [] (ts g E sNil) := PSs.imp pss_nil fun D σ H ⟨ι, e, s, R, q, h⟩ => h σ H ι Fw.refl R q
theorem s_cons (h1 : PS X st (ts g E m)) (h2 : PSs X rest (ts g E mr)) : PSs X (st :: rest) (ts g E (sSeq m mr)) :=
  PSs.imp (pss_cons h1 h2) fun D σ H ⟨ι, e, s, R, q, h⟩ => ⟨ι, e, s, R, q, by
    unfold sSeq seqF at h
    split at h
    · rename_i e1 s1 h1
      rw [h1]
      exact fun σ' H' ι' f R' q' => ⟨ι', e1, s1, R', q', h.fw f⟩
    · rename_i r hr
      revert h
      cases hm : m g.F e s with
      | ok d s1 =>
        intro h
        cases d with
        | nx e1 => exact absurd hm (hr e1 s1)
        | _ => exact h
      | ex x s1 => intro h; exact h
      | no => intro h; exact h⟩
theorem s_one (h1 : PS X st (ts g E m)) : PSs X [st] (ts g E m) := pss_one h1
theorem s_ret (ha : PE X a (te g E ma)) : PS X (.Return (some a) pos) (ts g E (sRet ma)) :=
  PS.imp (ps_ret ha) fun D σ H ⟨ι, e, s, R, q, h⟩ => ⟨ι, e, s, R, q, tRs.bind h fun d s1 v H1 ι1 _ f1 R1 r1 h1 => h1 v H1 ι1 Fw.refl R1 r1⟩
theorem s_retN : PS X (.Return none pos) (ts g E sRetN) := PS.imp ps_retN fun D σ H ⟨ι, e, s, R, q, h⟩ => h _ H ι Fw.refl R .non
theorem s_expr (ha : PE X a (te g E ma)) (hs : swapsWith a none pos.line X.env = pure false) : PS X (.Expr a pos) (ts g E (sDrop ma)) :=
  PS.imp (ps_expr ha hs) fun D σ H ⟨ι, e, s, R, q, h⟩ => ⟨ι, e, s, R, q, tRs.bind h fun d s1 v H1 ι1 _ f1 R1 r1 h1 => h1 σ H1 ι1 Fw.refl R1 (q.fw f1)⟩
theorem s_if {c : PySem.Expr} {x y : List PySem.Stmt} {mx my : MS} (hc : PT X c (tt g E mt)) (hx : PSs X x (ts g E mx)) (hy : PSs X y (ts g E my)) : PS X (.If c x y pos) (ts g E (sIf mt mx my)) :=
  PS.imp (ps_if hc hx hy) fun D σ H ⟨ι, e, s, R, q, h⟩ => ⟨ι, e, s, R, q, tRs.bind h fun d s1 v H1 ι1 _ f1 R1 r1 h1 => by
    subst r1
    cases d with
    | true => exact ⟨ι1, e, s1, R1, q.fw f1, h1⟩
    | false => exact ⟨ι1, e, s1, R1, q.fw f1, h1⟩⟩
theorem s_pass : PS X (.Pass pos) (ts g E sNil) := PS.imp ps_pass fun D σ H ⟨ι, e, s, R, q, h⟩ => h σ H ι Fw.refl R q
theorem s_break : PS X (.Break pos) (ts g E sBk) := PS.imp ps_break fun D σ H ⟨ι, e, s, R, q, h⟩ => h σ H ι Fw.refl R q
theorem s_cont : PS X (.Continue pos) (ts g E sCt) := PS.imp ps_continue fun D σ H ⟨ι, e, s, R, q, h⟩ => h σ H ι Fw.refl R q
theorem s_no : PS X st (ts g E sNo) := ⟨fun _ _ _ _ _ _ h => by obtain ⟨_, _, _, _, _, h⟩ := h; exact h.elim⟩
theorem ss_no : PSs X rest (ts g E sNo) := ⟨fun _ _ _ _ _ _ h => by obtain ⟨_, _, _, _, _, h⟩ := h; exact h.elim⟩
theorem s_asg {mg : MG} (ha : PE X a (te g E ma)) (hg : PG X b (gs g E ws mg)) (hs : swapsWithSole [b] a pos.line X.env = pure false) (hw : swappedStores [b] a X.env = pure none)
    (h1 : (assignEach [b] X.env).map (·.2) = [assign b X.env]) : PS X (.Assign [b] a pos) (ts g E (sAsg ma mg)) :=
  PS.imp (ps_asg ha hg hs hw h1) fun D σ H ⟨ι, e, s, R, q, h⟩ => ⟨ι, e, s, R, q, tRs.bind h fun d s1 v H1 ι1 _ f1 R1 r1 h1 => ⟨ι1, e, s1, d, R1, q.fw f1, r1, tRs.bind h1 fun e2 s2 σ2 H2 ι2 _ f2 R2 q2 h2 => h2 σ2 H2 ι2 Fw.refl R2 q2.1⟩⟩
end

/-! ### while -/
def whileF (c : MT) (b : MS) : Nat → FT → En → S → R Fl
  | 0, _, _, _ => .no
  | n + 1, F, e, s => (c F e s).bind fun k s1 => if k then (match b F e s1 with
      | .ok (.nx e2) s2 => whileF c b n F e2 s2
      | .ok (.ct e2) s2 => whileF c b n F e2 s2
      | .ok (.bk e2) s2 => .ok (.nx e2) s2
      | r => r) else .ok (.nx e) s1
def sWhile (c : MT) (b : MS) : MS := fun F e s => whileF c b 100000 F e s
section
variable {X : Cx} {g : Cfg} {E : XK} {pos : Pos}
theorem s_while {c : PySem.Expr} {body : List PySem.Stmt} {mt : MT} {mb : MS} (hp : PassesOwn (model X.prog X.w) X.A X.env X.xe) (hc : PT X c (tt g E mt)) (hb : PSs X body (ts g E mb)) : PS X (.While c body [] pos) (ts g E (sWhile mt mb)) :=
  PS.imp (ps_while hp hc hb) fun D σ H ⟨ι, e, s, R, q, h⟩ => by
    refine ⟨fun m σ H => ∃ ι e s, RS g.K g.T H ι s ∧ RE g.K H ι e σ ∧ tRs g E (whileF mt mb m g.F e s) H ι D, ⟨100000, ι, e, s, R, q, h⟩, ?_⟩
    rintro m σ H ⟨ι, e, s, R, q, h⟩
    cases m with
    | zero => exact h.elim
    | succ n =>
      refine ⟨ι, e, s, R, q, tRs.bind h fun k s1 v H1 ι1 _ f1 R1 r1 h1 => ?_⟩
      subst r1
      cases k with
      | false => exact h1 σ H1 ι1 Fw.refl R1 (q.fw f1)
      | true =>
        refine ⟨fun σ H => ∃ ι e s, RS g.K g.T H ι s ∧ RE g.K H ι e σ ∧ tRs g E (whileF mt mb n g.F e s) H ι D, fun σ' H' w => ⟨n, Nat.lt_succ_self n, w⟩, ι1, e, s1, R1, q.fw f1, ?_⟩
        rw [if_pos rfl] at h1
        cases hm : mb g.F e s1 with
        | ok d s2 =>
          rw [hm] at h1
          cases d with
          | nx e2 => exact fun σ' H' ι' f' R' q' => ⟨ι', e2, s2, R', q', h1.fw f'⟩
          | ct e2 => exact fun σ' H' ι' f' R' q' => ⟨ι', e2, s2, R', q', h1.fw f'⟩
          | bk e2 => exact h1
          | rt d => exact h1
        | ex x s2 => rw [hm] at h1; exact h1
        | no => rw [hm] at h1; exact h1
end
end EV

namespace EV
open L2 PySem PySem.Spec PyProof.Rows

/-! ### what is walked -/
inductive Src where
  | tup (l : List D) | lst (r : Nat) | rng (lo : Int) (n : Nat) | enL (r : Nat) | zipT (l m : List D) | zipL (r q : Nat)
def pairO (a b : Option D) : Option D := match a, b with
  | some x, some y => some (.tup [x, y])
  | _, _ => none
def atL (l : Option (List D)) (i : Nat) : Option (Option D) := match l with
  | some l => some l[i]?
  | none => none
def Src.at (q : Src) (s : S) (i : Nat) : Option (Option D) := match q with
  | .tup l => some l[i]?
  | .lst r => atL (s.seq r) i
  | .rng lo n => some (if i < n then some (.int (lo + i)) else none)
  | .enL r => match atL (s.seq r) i with
    | some (some d) => some (some (.tup [.int i, d]))
    | o => o
  | .zipT l m => some (pairO l[i]? m[i]?)
  | .zipL r q => match atL (s.seq r) i, atL (s.seq q) i with
    | some a, some b => some (pairO a b)
    | _, _ => none
def SrcOk (g : Cfg) (H0 : Hp) (ι0 : List Addr) (q : Src) (J : It) : Prop := ∀ H ι s, Fw g.K H0 ι0 H ι → RS g.K g.T H ι s → ∀ i,
  (q.at s i = some none → J.stop i H) ∧ ∀ d, q.at s i = some (some d) → J.go i H ∧ ∀ x H', J.yld i H x H' → Fw g.K H ι H' ι ∧ RS g.K g.T H' ι s ∧ RV g.K H' ι d x
abbrev MI := FT → En → S → R Src
def ti (g : Cfg) (E : XK) (m : MI) : TI := fun σ H Q => ∃ ι e s, RS g.K g.T H ι s ∧ RE g.K H ι e σ ∧ tR g E (SrcOk g) (m g.F e s) H ι Q
section
variable {g : Cfg} {H : Hp} {ι : List Addr}
theorem src_tup {a : Addr} {l : List D} {xs : List V} (h : SqT g.K H a xs) (r : RVs g.K H ι l xs) : SrcOk g H ι (.tup l) (Itt g.K a) := by
  intro H1 ι1 s f R i
  have h1 := f.tup _ _ h
  have r1 := r.fw f
  have hl := r1.length
  refine ⟨fun e => ⟨xs, h1, ?_⟩, fun d e => ?_⟩
  · have e' : l[i]? = none := Option.some.inj e
    have := List.getElem?_eq_none_iff.mp e'
    omega
  · have e' : l[i]? = some d := Option.some.inj e
    obtain ⟨v, hv, rv⟩ := r1.get e'
    refine ⟨⟨xs, v, h1, hv⟩, fun x H' y => ?_⟩
    obtain ⟨rfl, y⟩ := y
    have z := y xs h1
    rw [hv] at z
    cases z
    exact ⟨Fw.refl, R, rv⟩
theorem src_lst {a : Addr} {r : Nat} (h : ι[r]? = some a) : SrcOk g H ι (.lst r) (Itl g.K a) := by
  intro H1 ι1 s f R i
  have h1 := f.at h
  have key : ∀ o, atL (s.seq r) i = some o → ∃ l xs, o = l[i]? ∧ SqL g.K H1 a xs ∧ RVs g.K H1 ι1 l xs := fun o e => by
    cases hs : s.seq r with
    | none => rw [hs] at e; cases e
    | some l =>
      rw [hs] at e
      obtain ⟨xs, h2, h3⟩ := R.seq h1 hs
      exact ⟨l, xs, (Option.some.inj e).symm, h2, h3⟩
  refine ⟨fun e => ?_, fun d e => ?_⟩
  · obtain ⟨l, xs, e', h2, h3⟩ := key _ e
    have hl := h3.length
    have := List.getElem?_eq_none_iff.mp e'.symm
    exact ⟨xs, h2, by omega⟩
  · obtain ⟨l, xs, e', h2, h3⟩ := key _ e
    obtain ⟨v, hv, rv⟩ := h3.get e'.symm
    refine ⟨⟨xs, v, h2, hv⟩, fun x H' y => ?_⟩
    obtain ⟨rfl, y⟩ := y
    have z := y xs h2
    rw [hv] at z
    cases z
    exact ⟨Fw.refl, R, rv⟩
theorem src_rng {lo : Int} {n : Nat} : SrcOk g H ι (.rng lo n) (Itr lo n) := by
  intro H1 ι1 s f R i
  refine ⟨fun e => ?_, fun d e => ?_⟩
  · have e' : (if i < n then some (D.int (lo + i)) else none) = none := Option.some.inj e
    split at e'
    · cases e'
    · show n ≤ i
      omega
  · have e' : (if i < n then some (D.int (lo + i)) else none) = some d := Option.some.inj e
    split at e'
    · cases e'
      rename_i hi
      refine ⟨hi, fun x H' y => ?_⟩
      obtain ⟨rfl, rfl⟩ := y
      exact ⟨Fw.refl, R, .int _⟩
    · cases e'
theorem pair_ok {H1 : Hp} {ι1 : List Addr} {s : S} {d1 d2 : D} {v1 v2 x : V} {H' : Hp} (R : RS g.K g.T H1 ι1 s) (r1 : RV g.K H1 ι1 d1 v1) (r2 : RV g.K H1 ι1 d2 v2) {T : Addr} (hx : x = .ref T) (hT : H1 T = none) (hH : H' = upd H1 T (.tup [v1, v2])) :
    Fw g.K H1 ι1 H' ι1 ∧ RS g.K g.T H' ι1 s ∧ RV g.K H' ι1 (.tup [d1, d2]) x := by
  subst hx hH
  exact ⟨Fw.new hT, R.new hT, .tup (.inl (.inl upd_same)) (.cons (r1.fw (Fw.new hT)) (.cons (r2.fw (Fw.new hT)) .nil))⟩
theorem src_enL {a : Addr} {r : Nat} (h : ι[r]? = some a) : SrcOk g H ι (.enL r) (Ite g.K a) := by
  intro H1 ι1 s f R i
  have h1 := f.at h
  have key : ∀ o, atL (s.seq r) i = some o → ∃ l xs, o = l[i]? ∧ SqL g.K H1 a xs ∧ RVs g.K H1 ι1 l xs := fun o e => by
    cases hs : s.seq r with
    | none => rw [hs] at e; cases e
    | some l =>
      rw [hs] at e
      obtain ⟨xs, h2, h3⟩ := R.seq h1 hs
      exact ⟨l, xs, (Option.some.inj e).symm, h2, h3⟩
  cases ha : atL (s.seq r) i with
  | none => exact ⟨fun e => by simp [Src.at, ha] at e, fun d e => by simp [Src.at, ha] at e⟩
  | some o =>
    obtain ⟨l, xs, e', h2, h3⟩ := key _ ha
    cases o with
    | none =>
      refine ⟨fun _ => ?_, fun d e => by simp [Src.at, ha] at e⟩
      have hl := h3.length
      have := List.getElem?_eq_none_iff.mp e'.symm
      exact ⟨xs, h2, by omega⟩
    | some d0 =>
      refine ⟨fun e => by simp [Src.at, ha] at e, fun d e => ?_⟩
      have e2 : D.tup [.int i, d0] = d := by simpa [Src.at, ha] using e
      subst e2
      obtain ⟨v, hv, rv⟩ := h3.get e'.symm
      refine ⟨⟨xs, v, h2, hv⟩, fun x H' y => ?_⟩
      obtain ⟨T, x0, y1, y2, y3, y4⟩ := y
      have z := y4 xs h2
      rw [hv] at z
      cases z
      exact pair_ok R (.int _) rv y1 y2 y3
theorem pairO_none {α : Type} {a b : Option D} (h : pairO a b = none) : a = none ∨ b = none := by
  cases a with
  | none => exact .inl rfl
  | some x => cases b with
    | none => exact .inr rfl
    | some y => cases h
theorem pairO_some {a b : Option D} {d : D} (h : pairO a b = some d) : ∃ x y, a = some x ∧ b = some y ∧ d = .tup [x, y] := by
  cases a with
  | none => cases h
  | some x => cases b with
    | none => cases h
    | some y => cases h; exact ⟨x, y, rfl, rfl, rfl⟩
theorem src_zipT {a b : Addr} {l m : List D} {xs ys : List V} (h : SqT g.K H a xs) (r : RVs g.K H ι l xs) (h' : SqT g.K H b ys) (r' : RVs g.K H ι m ys) : SrcOk g H ι (.zipT l m) (RZ.ItzT g.K a b) := by
  intro H1 ι1 s f R i
  have h1 := f.tup _ _ h
  have r1 := r.fw f
  have h2 := f.tup _ _ h'
  have r2 := r'.fw f
  have hl := r1.length
  have hm := r2.length
  refine ⟨fun e => ⟨xs, ys, h1, h2, ?_⟩, fun d e => ?_⟩
  · rcases pairO_none (α := Unit) (Option.some.inj e) with e' | e'
    · have := List.getElem?_eq_none_iff.mp e'; omega
    · have := List.getElem?_eq_none_iff.mp e'; omega
  · obtain ⟨x, y, ex, ey, rfl⟩ := pairO_some (Option.some.inj e)
    obtain ⟨v, hv, rv⟩ := r1.get ex
    obtain ⟨w, hw, rw'⟩ := r2.get ey
    refine ⟨⟨xs, ys, v, w, h1, h2, hv, hw⟩, fun x0 H' yl => ?_⟩
    obtain ⟨T, x1, x2, y1, y2, y3, y4, y5⟩ := yl
    have z := y4 xs h1
    have z' := y5 ys h2
    rw [hv] at z
    rw [hw] at z'
    cases z
    cases z'
    exact pair_ok R rv rw' y1 y2 y3
theorem src_zipL {a b : Addr} {r q : Nat} (h : ι[r]? = some a) (h' : ι[q]? = some b) : SrcOk g H ι (.zipL r q) (Itz g.K a b) := by
  intro H1 ι1 s f R i
  have h1 := f.at h
  have h2 := f.at h'
  cases hs : s.seq r with
  | none => exact ⟨fun e => by simp [Src.at, atL, hs] at e, fun d e => by simp [Src.at, atL, hs] at e⟩
  | some l =>
    cases hq : s.seq q with
    | none => exact ⟨fun e => by simp [Src.at, atL, hs, hq] at e, fun d e => by simp [Src.at, atL, hs, hq] at e⟩
    | some m =>
      obtain ⟨xs, k1, k2⟩ := R.seq h1 hs
      obtain ⟨ys, k3, k4⟩ := R.seq h2 hq
      have hl := k2.length
      have hm := k4.length
      have ea : (Src.zipL r q).at s i = some (pairO l[i]? m[i]?) := by simp [Src.at, atL, hs, hq]
      rw [ea]
      refine ⟨fun e => ⟨xs, ys, k1, k3, ?_⟩, fun d e => ?_⟩
      · rcases pairO_none (α := Unit) (Option.some.inj e) with e' | e'
        · have := List.getElem?_eq_none_iff.mp e'; omega
        · have := List.getElem?_eq_none_iff.mp e'; omega
      · obtain ⟨x, y, ex, ey, rfl⟩ := pairO_some (Option.some.inj e)
        obtain ⟨v, hv, rv⟩ := k2.get ex
        obtain ⟨w, hw, rw'⟩ := k4.get ey
        refine ⟨⟨xs, ys, v, w, k1, k3, hv, hw⟩, fun x0 H' yl => ?_⟩
        obtain ⟨T, x1, x2, y1, y2, y3, y4, y5⟩ := yl
        have z := y4 xs k1
        have z' := y5 ys k3
        rw [hv] at z
        rw [hw] at z'
        cases z
        cases z'
        exact pair_ok R rv rw' y1 y2 y3
end

/-! ### how a walk begins -/
def seqSrc : D → S → R Src
  | .tup l, s => .ok (.tup l) s
  | .lst r, s => .ok (.lst r) s
  | _, _ => .no
def iSeq (a : ME) : MI := fun F e s => (a F e s).bind seqSrc
def rng1 : List D → S → R Src
  | [.int j], s => if -(2 ^ 62) ≤ j ∧ j < 2 ^ 62 then .ok (.rng 0 j.toNat) s else .no
  | _, _ => .no
def rng2 : List D → S → R Src
  | [.int i, .int j], s => if -(2 ^ 62) ≤ i ∧ i < 2 ^ 62 ∧ -(2 ^ 62) ≤ j ∧ j < 2 ^ 62 then .ok (.rng i (j - i).toNat) s else .no
  | _, _ => .no
def enumS : List D → S → R Src
  | [.lst r], s => match s.seq r with
    | some _ => .ok (.enL r) s
    | none => .no
  | _, _ => .no
def okSeq (s : S) (r q : Nat) : Bool := (s.seq r).isSome && (s.seq q).isSome
def zipS : List D → S → R Src
  | [.tup l, .tup m], s => .ok (.zipT l m) s
  | [.lst r, .lst q], s => if okSeq s r q = true then .ok (.zipL r q) s else .no
  | _, _ => .no
def iArgs (f : List D → S → R Src) (a : MA) : MI := fun F e s => (a F e s).bind f
section
variable {X : Cx} {g : Cfg} {E : XK} {tg a b : PySem.Expr} {ma : ME} {mr : MA} {p pos : Pos}
theorem PI.imp {e : PySem.Expr} {t t' : TI} (h : PI X tg e t) (k : ∀ σ H Q, t' σ H Q → t σ H Q) : PI X tg e t' := ⟨fun pins s σ H Q I q => h.run pins s σ H Q I (k σ H Q q)⟩
theorem PI.two {e : PySem.Expr} {te1 te2 : TE} {w1 w2 : TI} {tl : TE} (h : PE X e tl) (hl : ∀ pins s σ H R x v, Inv X pins σ H s → RelV x v → (∃ a, x = .ref a ∧ (∃ xs, SqL X.K H a xs) ∧ R (Itl X.K a) H) → wpAny (model X.prog X.w) X.A (pyIter v) (PIE X pins σ tg R) X.xe s)
    (ht : ∀ pins s σ H R x v, Inv X pins σ H s → RelV x v → (∃ a, x = .ref a ∧ (∃ xs, SqT X.K H a xs) ∧ R (Itt X.K a) H) → wpAny (model X.prog X.w) X.A (pyIter v) (PIE X pins σ tg R) X.xe s) :
    PI X tg e (fun σ H R => tl σ H fun x H1 => (∃ a, x = .ref a ∧ (∃ xs, SqL X.K H1 a xs) ∧ R (Itl X.K a) H1) ∨ ∃ a, x = .ref a ∧ (∃ xs, SqT X.K H1 a xs) ∧ R (Itt X.K a) H1) := by
  refine ⟨fun pins s σ H R I hw => ?_⟩
  refine thn (h.run pins s σ H _ I hw) fun v s1 ⟨x, H1, I1, r1, q1⟩ => ?_
  rcases q1 with q1 | q1
  · exact hl pins s1 σ H1 R x v I1 r1 q1
  · exact ht pins s1 σ H1 R x v I1 r1 q1
theorem it_list {pins : List (Addr × Obj)} {s1 : Shared} {σ : L2.St} {H1 : Hp} {R : It → Hp → Prop} {x : V} {v : Value} (I1 : Inv X pins σ H1 s1) (r1 : RelV x v) (h : ∃ a, x = .ref a ∧ (∃ xs, SqL X.K H1 a xs) ∧ R (Itl X.K a) H1) :
    wpAny (model X.prog X.w) X.A (pyIter v) (PIE X pins σ tg R) X.xe s1 := by
  obtain ⟨a, e, ⟨xs, hq⟩, q⟩ := h
  subst e
  cases r1
  obtain ⟨its, rv, p, hz⟩ := I1.list hq
  refine wpAny_pyIter_list p.isList ?_
  refine ⟨s1.heap.objs.size, [s1.heap.objs.size], _, _, H1, rfl, I1.kept (t' := s1.toks) fun b o e => Heap.get?_push_of_some _ e, turn_list a _, ⟨_, Heap.get?_push_size _ rfl, rfl, rfl⟩, fun b hb => ?_, q⟩
  have e : b = s1.heap.objs.size := by simpa using hb
  subst e
  exact I1.fpOk (Nat.le_refl _) (I1.hok.fresh (Nat.le_refl _))
theorem it_tup {pins : List (Addr × Obj)} {s1 : Shared} {σ : L2.St} {H1 : Hp} {R : It → Hp → Prop} {x : V} {v : Value} (I1 : Inv X pins σ H1 s1) (r1 : RelV x v) (h : ∃ a, x = .ref a ∧ (∃ xs, SqT X.K H1 a xs) ∧ R (Itt X.K a) H1) :
    wpAny (model X.prog X.w) X.A (pyIter v) (PIE X pins σ tg R) X.xe s1 := by
  obtain ⟨a, e, ⟨xs, hq⟩, q⟩ := h
  subst e
  cases r1
  obtain ⟨its, rv, p, hz⟩ := I1.tuple hq
  refine wpAny_pyIter_tuple (show s1.heap.IsTuple a its.toArray from p) ?_
  refine ⟨s1.heap.objs.size, [s1.heap.objs.size], _, _, H1, rfl, I1.kept (t' := s1.toks) fun b o e => Heap.get?_push_of_some _ e, turn_tuple a _, ⟨_, Heap.get?_push_size _ rfl, rfl, rfl⟩, fun b hb => ?_, q⟩
  have e : b = s1.heap.objs.size := by simpa using hb
  subst e
  exact I1.fpOk (Nat.le_refl _) (I1.hok.fresh (Nat.le_refl _))
/-- a list in the store that is readable -/
def seqSrc' : D → S → R Src
  | .tup l, s => .ok (.tup l) s
  | .lst r, s => match s.seq r with
    | some _ => .ok (.lst r) s
    | none => .no
  | _, _ => .no
def iSeq' (a : ME) : MI := fun F e s => (a F e s).bind seqSrc'
theorem i_seq (A : At X g E) (ha : PE X a (te g E ma)) : PI X tg a (ti g E (iSeq' ma)) := by
  refine ⟨fun pins s σ H R I hw => ?_⟩
  obtain ⟨ι, e, st, R0, q, h⟩ := hw
  refine thn (ha.run pins s σ H (fun x H1 => (∃ a, x = .ref a ∧ (∃ xs, SqL X.K H1 a xs) ∧ R (Itl X.K a) H1) ∨ ∃ a, x = .ref a ∧ (∃ xs, SqT X.K H1 a xs) ∧ R (Itt X.K a) H1) I ⟨ι, e, st, R0, q, tR.bind h fun d s1 v H1 ι1 _ f1 R1 r1 h1 => ?_⟩) fun v s1 ⟨x, H1, I1, r1, q1⟩ => ?_
  · rw [A.K]
    cases r1 with
    | @tup a l xs k1 k2 => exact .inr ⟨a, rfl, ⟨xs, k1⟩, h1 _ _ _ Fw.refl R1 (src_tup k1 k2)⟩
    | @lst r a k1 =>
      change tR g E (SrcOk g) (match s1.seq r with | some _ => .ok (.lst r) s1 | none => .no) H1 ι1 R at h1
      cases hs : s1.seq r with
      | none => rw [hs] at h1; exact h1.elim
      | some l =>
        rw [hs] at h1
        obtain ⟨xs, k2, _⟩ := R1.seq k1 hs
        exact .inl ⟨a, rfl, ⟨xs, k2⟩, h1 _ _ _ Fw.refl R1 (src_lst k1)⟩
    | _ => exact h1.elim
  · rcases q1 with q1 | q1
    · exact it_list I1 r1 q1
    · exact it_tup I1 r1 q1
theorem i_rng1 (A : At X g E) (hg : Gl X "range") (hm : X.mg "range" = none) (ha : PA X [a] (ta g E mr)) (hs : starEach [a] X.env = [(false, eval a X.env)]) : PI X tg (.Call (.Name "range" p) [a] [] pos) (ti g E (iArgs rng1 mr)) :=
  PI.imp (pi_range1 hg hm ha hs) fun σ H Q ⟨ι, e, s, R, q, h⟩ => ⟨ι, e, s, R, q, tR.bind h fun ds s1 vs H1 ι1 he f1 R1 r1 h1 => by
    clear he
    unfold rng1 at h1
    split at h1
    · rename_i j
      obtain ⟨⟨k1, k2⟩, h2⟩ := tR.ite h1
      cases r1 with
      | cons r1 r2 =>
        cases r2
        cases r1
        exact ⟨j, rfl, k1, k2, h2 _ _ _ Fw.refl R1 src_rng⟩
    · exact h1.elim⟩
theorem i_rng2 (A : At X g E) (hg : Gl X "range") (hm : X.mg "range" = none) (ha : PA X [a, b] (ta g E mr)) (hs : starEach [a, b] X.env = [(false, eval a X.env), (false, eval b X.env)]) (hs2 : starEach [b] X.env = [(false, eval b X.env)]) : PI X tg (.Call (.Name "range" p) [a, b] [] pos) (ti g E (iArgs rng2 mr)) :=
  PI.imp (pi_range2 hg hm ha hs hs2) fun σ H Q ⟨ι, e, s, R, q, h⟩ => ⟨ι, e, s, R, q, tR.bind h fun ds s1 vs H1 ι1 he f1 R1 r1 h1 => by
    clear he
    unfold rng2 at h1
    split at h1
    · rename_i i j
      obtain ⟨k1, h2⟩ := tR.ite h1
      cases r1 with
      | cons r1 r2 =>
        cases r2 with
        | cons r2 r3 =>
          cases r3
          cases r1
          cases r2
          exact ⟨i, j, rfl, k1, h2 _ _ _ Fw.refl R1 src_rng⟩
    · exact h1.elim⟩
theorem i_enum (A : At X g E) {elts : List PySem.Expr} {kk : Nat} {tpos : Pos} (hg : Gl X "enumerate") (hm : X.mg "enumerate" = none) (ha : PA X [a] (ta g E mr)) (hs : starEach [a] X.env = [(false, eval a X.env)]) : PI X (.Tuple elts kk tpos) (.Call (.Name "enumerate" p) [a] [] pos) (ti g E (iArgs enumS mr)) :=
  PI.imp (pi_enum hg hm ha hs) fun σ H Q ⟨ι, e, s, R, q, h⟩ => ⟨ι, e, s, R, q, tR.bind h fun ds s1 vs H1 ι1 he f1 R1 r1 h1 => by
    clear he
    unfold enumS at h1
    split at h1
    · rename_i r
      cases hs : s1.seq r with
      | none => simp only [hs] at h1; exact h1.elim
      | some l =>
        simp only [hs] at h1
        cases r1 with
        | cons r1 r2 =>
          cases r2
          cases r1 with
          | lst k1 =>
            obtain ⟨xs, k2, _⟩ := R1.seq k1 hs
            rw [A.K]
            exact ⟨_, xs, rfl, k2, h1 _ _ _ Fw.refl R1 (src_enL k1)⟩
    · exact h1.elim⟩
theorem i_zip (A : At X g E) {elts : List PySem.Expr} {kk : Nat} {tpos : Pos} (hg : Gl X "zip") (hm : X.mg "zip" = none) (ha : PA X [a, b] (ta g E mr)) (hs : starEach [a, b] X.env = (false, eval a X.env) :: starEach [b] X.env) (hpl : (backTo pos (starEach [b] X.env)).any (·.1) = false) :
    PI X (.Tuple elts kk tpos) (.Call (.Name "zip" p) [a, b] [] pos) (ti g E (iArgs zipS mr)) :=
  PI.imp (RZ.pi_zipA hg hm ha hs hpl) fun σ H Q ⟨ι, e, s, R, q, h⟩ => ⟨ι, e, s, R, q, tR.bind h fun ds s1 vs H1 ι1 he f1 R1 r1 h1 => by
    clear he
    unfold zipS at h1
    rw [A.K]
    split at h1
    · rename_i l m
      cases r1 with
      | cons r1 r2 =>
        cases r2 with
        | cons r2 r3 =>
          cases r3
          cases r1 with
          | tup k1 k2 =>
            cases r2 with
            | tup k3 k4 => exact ⟨_, _, _, _, rfl, .inr ⟨k1, k3, h1 _ _ _ Fw.refl R1 (src_zipT k1 k2 k3 k4)⟩⟩
    · rename_i r q'
      obtain ⟨hk, h2⟩ := tR.ite h1
      unfold okSeq at hk
      cases hs : s1.seq r with
      | none => simp [hs] at hk
      | some l =>
        cases hq : s1.seq q' with
        | none => simp [hq] at hk
        | some m =>
          cases r1 with
          | cons r1 r2 =>
            cases r2 with
            | cons r2 r3 =>
              cases r3
              cases r1 with
              | lst k1 =>
                cases r2 with
                | lst k3 =>
                  obtain ⟨xs, j1, _⟩ := R1.seq k1 hs
                  obtain ⟨ys, j2, _⟩ := R1.seq k3 hq
                  exact ⟨_, _, xs, ys, rfl, .inl ⟨j1, j2, h2 _ _ _ Fw.refl R1 (src_zipL k1 k3)⟩⟩
    · exact h1.elim⟩
end

/-! ### for -/
def forF (q : Src) (m : MG) (b : MS) : Nat → Nat → FT → En → S → R Fl
  | 0, _, _, _, _ => .no
  | n + 1, i, F, e, s => match q.at s i with
    | none => .no
    | some none => .ok (.nx e) s
    | some (some d) => (m F e d s).bind fun e1 s1 => match b F e1 s1 with
        | .ok (.nx e2) s2 => forF q m b n (i + 1) F e2 s2
        | .ok (.ct e2) s2 => forF q m b n (i + 1) F e2 s2
        | .ok (.bk e2) s2 => .ok (.nx e2) s2
        | r => r
def sFor (it : MI) (m : MG) (b : MS) : MS := fun F e s => (it F e s).bind fun q s1 => forF q m b 100000 0 F e s1
section
variable {X : Cx} {g : Cfg} {E : XK} {pos : Pos}
theorem s_for (A : At X g E) {tg iter : PySem.Expr} {body : List PySem.Stmt} {mi : MI} {m : MG} {mb : MS} {ws : List Nat} (hi : PI X tg iter (ti g E mi)) (hg : PG X tg (gs g E ws m)) (hb : PSs X body (ts g E mb)) (hs : ∀ x, foldedSetIterable iter X.env x = pure x) :
    PS X (.For tg iter body [] pos) (ts g E (sFor mi m mb)) :=
  PS.imp (ps_for A.po A.calm hi hg hb hs) fun D σ H ⟨ι, e, s, R, q, h⟩ => ⟨ι, e, s, R, q, by
    refine tRs.bind h fun sr s1 J H1 ι1 _ f1 R1 r1 h1 => ?_
    refine ⟨fun i n σ H => ∃ ι e s, Fw g.K H1 ι1 H ι ∧ RS g.K g.T H ι s ∧ RE g.K H ι e σ ∧ tRs g E (forF sr m mb n i g.F e s) H ι D, ⟨100000, ι1, e, s1, Fw.refl, R1, q.fw f1, h1⟩, ?_⟩
    rintro i n σ H ⟨ι, e, s, f, R, q, h⟩
    cases n with
    | zero => exact h.elim
    | succ n =>
      obtain ⟨stp, go⟩ := r1 H ι s f R i
      unfold forF at h
      cases ha : sr.at s i with
      | none => simp only [ha] at h; exact h.elim
      | some o =>
        simp only [ha] at h
        cases o with
        | none => exact .inl ⟨stp ha, h σ H ι Fw.refl R q⟩
        | some d =>
          simp only at h
          obtain ⟨g1, g2⟩ := go d ha
          refine .inr ⟨g1, fun σ H => ∃ ι e s, Fw g.K H1 ι1 H ι ∧ RS g.K g.T H ι s ∧ RE g.K H ι e σ ∧ tRs g E (forF sr m mb n (i + 1) g.F e s) H ι D, fun σ' H' w => ⟨n, Nat.lt_succ_self n, w⟩, fun x H' y => ?_⟩
          obtain ⟨f2, R2, rx⟩ := g2 x H' y
          have h' := h.fw f2
          have ff := f.trans f2
          refine ⟨ι, e, s, d, R2, q.fw f2, rx, tRs.bind h' fun e1 s1 σ2 H2 ι2 _ f3 R3 q3 h3 => ⟨ι2, e1, s1, R3, q3.1, ?_⟩⟩
          have fg := ff.trans f3
          cases hb : mb g.F e1 s1 with
          | ok fl s2 =>
            rw [hb] at h3
            cases fl with
            | nx e2 => exact fun σ' H' ι' f' R' q' => ⟨ι', e2, s2, fg.trans f', R', q', h3.fw f'⟩
            | ct e2 => exact fun σ' H' ι' f' R' q' => ⟨ι', e2, s2, fg.trans f', R', q', h3.fw f'⟩
            | bk e2 => exact h3
            | rt d2 => exact h3
          | ex x2 s2 => rw [hb] at h3; exact h3
          | no => rw [hb] at h3; exact h3⟩
end
end EV

namespace EV
open L2 PySem PySem.Spec PyProof.Rows

/-! ### list comprehensions -/
def noEx {α : Type} (r : R α) : R α := match r with
  | .ex _ _ => .no
  | r => r
theorem noEx_ok {α β : Type} {g : Cfg} {E : XK} {Rl : Hp → List Addr → α → β → Prop} {r : R α} {H : Hp} {ι : List Addr} {Q : β → Hp → Prop} (h : tR g E Rl (noEx r) H ι Q) : tR g E0 Rl r H ι Q := by
  cases r with
  | ok d s => exact h
  | ex x s => exact h.elim
  | no => exact h.elim
def wipeE (e : En) : List Nat → En
  | [] => e
  | v :: vs => (wipeE e vs).set v none
theorem RE.wipe {K : PySem.W.Frag} {H : Hp} {ι : List Addr} {e : En} {σ : L2.St} (h : RE K H ι e σ) : ∀ vs : List Nat, RE K H ι (wipeE e vs) (wipe σ vs)
  | [] => h
  | v :: vs => by
    have ih := RE.wipe h vs
    unfold wipeE L2.wipe
    refine ⟨by rw [List.length_set, List.length_set]; exact ih.1, fun i d q => ?_⟩
    rw [List.getElem?_set] at q
    by_cases hv : v = i
    · subst hv
      rw [if_pos rfl] at q
      split at q <;> cases q
    · rw [if_neg hv] at q
      obtain ⟨w, a, b⟩ := ih.2 i d q
      exact ⟨w, by rw [List.getElem?_set_ne hv]; exact a, b⟩
def lcF (q : Src) (m : MG) (t : MT) (el : ME) : Nat → Nat → List D → FT → En → S → R (List D)
  | 0, _, _, _, _, _ => .no
  | n + 1, i, acc, F, e, s => match q.at s i with
    | none => .no
    | some none => .ok acc.reverse s
    | some (some d) => (m F e d s).bind fun e1 s0 => (t F e1 s0).bind fun b s1 => if b then (el F e1 s1).bind fun x s2 => lcF q m t el n (i + 1) (x :: acc) F e s2 else lcF q m t el n (i + 1) acc F e s1
/-- the values of a comprehension -/
def cLc (it : MI) (m : MG) (t : MT) (el : ME) (vs : List Nat) : MA := fun F e s => (it F e s).bind fun q s1 => noEx (lcF q m t el 100000 0 [] F (wipeE e vs) s1)
def newL (xs : List D) (s : S) : R D := .ok (.lst s.n) (s.new (.lst xs))
def mLc (it : MI) (m : MG) (t : MT) (el : ME) (vs : List Nat) : ME := fun F e s => (cLc it m t el vs F e s).bind newL
section
variable {g : Cfg} {E : XK} {H H0 : Hp} {ι ι0 : List Addr} {s : S} {p : Addr}
/-- a list that is tracked becomes a cell -/
theorem RS.adopt {l : List D} {xs : List V} (R : RS g.K g.T H ι s) (f0 : Fw g.K H0 ι0 H ι) (h0 : H0 p = none) (hp : H p = some (.lst xs)) (hn : p ∉ ι) (r : RVs g.K H ι l xs) :
    Fw g.K H0 ι0 H (ι ++ [p]) ∧ RS g.K g.T H (ι ++ [p]) (s.new (.lst l)) ∧ RV g.K H (ι ++ [p]) (D.lst s.n) (V.ref p) := by
  have fx : ∀ b φ, H b = some (HO.ext φ) → b ∉ ι → b ∉ ι ++ [p] := fun b φ e hb z => by
    rcases List.mem_append.mp z with z | z
    · exact hb z
    · rw [List.mem_singleton.mp z, hp] at e
      cases e
  have up : ∀ {d : D} {v : V}, RV g.K H ι d v → RV g.K H (ι ++ [p]) d v := fun h => by
    have f : ∀ (r : Nat) (a : Addr), ι[r]? = some a → (ι ++ [p])[r]? = some a := fun r a h => by
      rw [List.getElem?_append_left (List.getElem?_eq_some_iff.mp h).1]; exact h
    exact h.ups f fx
  have ups : ∀ {d : List D} {v : List V}, RVs g.K H ι d v → RVs g.K H (ι ++ [p]) d v := fun h => by
    have f : ∀ (r : Nat) (a : Addr), ι[r]? = some a → (ι ++ [p])[r]? = some a := fun r a h => by
      rw [List.getElem?_append_left (List.getElem?_eq_some_iff.mp h).1]; exact h
    exact RVs.ups f fx h
  refine ⟨⟨f0.tup, ?_, f0.dom, f0.oth⟩, ⟨R.tab, by show s.n + 1 = _; rw [R.n]; rfl, by rw [List.length_append, R.len]; rfl, ?_, fun r' d a e h => ?_⟩, .lst (by rw [← R.len]; simp)⟩
  · obtain ⟨l, rfl, hl⟩ := f0.ad
    refine ⟨l ++ [p], by rw [List.append_assoc], fun a ha => ?_⟩
    rcases List.mem_append.mp ha with ha | ha
    · exact hl a ha
    · rw [List.mem_singleton.mp ha]; exact h0
  · rw [List.nodup_append]
    exact ⟨R.nd, by simp, fun a ha b hb => by rw [List.mem_singleton.mp hb]; rintro rfl; exact hn ha⟩
  · rw [S.get_new R.n] at e
    by_cases hr : r' = s.n
    · rw [if_pos hr] at e
      cases e
      have : a = p := by
        rw [hr, ← R.len] at h
        simpa using h.symm
      subst this
      exact ⟨xs, hp, ups r⟩
    · rw [if_neg hr] at e
      have hl := S.get_lt e
      have h' : ι[r']? = some a := by
        rw [List.getElem?_append_left (by rw [R.len]; exact hl)] at h
        exact h
      have z := R.cell r' d a e h'
      cases d with
      | lst l => obtain ⟨xs, h1, h2⟩ := z; exact ⟨xs, h1, ups h2⟩
      | frz l => obtain ⟨o, xs, h1, h2⟩ := z; exact ⟨o, xs, h1, ups h2⟩
      | dct kvs => exact z.elim
/-- a list that no cell speaks of, newer than H0, is written -/
theorem RS.aside {xs ys : List V} (R : RS g.K g.T H ι s) (f0 : Fw g.K H0 ι0 H ι) (h0 : H0 p = none) (hp : H p = some (.lst xs)) (hn : p ∉ ι) :
    Fw g.K H0 ι0 (upd H p (.lst ys)) ι ∧ RS g.K g.T (upd H p (.lst ys)) ι s ∧ (∀ {d : D} {v : V}, RV g.K H ι d v → RV g.K (upd H p (.lst ys)) ι d v) ∧ (∀ {d : List D} {v : List V}, RVs g.K H ι d v → RVs g.K (upd H p (.lst ys)) ι d v) ∧ ∀ {e : En} {σ : L2.St}, RE g.K H ι e σ → RE g.K (upd H p (.lst ys)) ι e σ := by
  have tp : ∀ a zs, SqT g.K H a zs → SqT g.K (upd H p (.lst ys)) a zs := fun a zs h => sqT_upd (fun o z => by rw [hp] at z; cases z; exact ⟨fun _ z => (nomatch z), fun _ _ z => (nomatch z)⟩) h
  have fx : ∀ b φ, H b = some (HO.ext φ) → upd H p (.lst ys) b = some (HO.ext φ) := fun b φ e => by
    rw [upd_ne (fun z => by rw [z, hp] at e; cases e)]
    exact e
  have rv : ∀ {d : D} {v : V}, RV g.K H ι d v → RV g.K (upd H p (.lst ys)) ι d v := fun h => h.tps tp fx
  have rvs : ∀ {d : List D} {v : List V}, RVs g.K H ι d v → RVs g.K (upd H p (.lst ys)) ι d v := fun h => RVs.tps tp fx h
  refine ⟨⟨fun a zs h => tp a zs (f0.tup a zs h), f0.ad, fun a h => f0.dom a (upd_none h), fun a o h hi ht => ?_⟩, ⟨fun P hP => (R.tab P hP).upd fun ps z => (by rw [hp] at z; cases z), R.n, R.len, R.nd, fun r c a e h => ?_⟩, rv, rvs, fun h => ⟨h.1, fun i d q => let ⟨v, a, b⟩ := h.2 i d q; ⟨v, a, rv b⟩⟩⟩
  · rw [upd_ne (ne_of_none h h0)]
    exact f0.oth a o h hi ht
  · have hne : a ≠ p := fun z => hn (by subst z; exact List.mem_of_getElem? h)
    have z := R.cell r c a e h
    cases c with
    | lst l => obtain ⟨xs, h1, h2⟩ := z; exact ⟨xs, (upd_ne hne).trans h1, rvs h2⟩
    | frz l => obtain ⟨o, xs, h1, h2⟩ := z; exact ⟨o, xs, (upd_ne hne).trans h1, rvs h2⟩
    | dct kvs => exact z.elim
theorem RS.notin (R : RS g.K g.T H ι s) (hp : H p = none) : p ∉ ι := fun h => by
  obtain ⟨r, hr⟩ := List.mem_iff_getElem?.mp h
  exact R.off hp hr rfl
end
theorem wipe_wipe {σ : L2.St} {vs : List Nat} : wipe (wipe σ vs) vs = wipe σ vs := by
  refine List.ext_getElem? fun j => ?_
  by_cases hj : j ∈ vs
  · rw [wipe_in hj, wipe_in hj, wipe_length]
  · rw [wipe_out hj]
/-- what is wanted of the values that a comprehension's loop gives -/
def Fin (g : Cfg) (E : XK) (Q : VK) (H1 : Hp) (ι1 : List Addr) (r : R (List D)) : Prop := match r with
  | .ok l s => tRe g E (newL l s) H1 ι1 Q
  | _ => False
theorem Fin.of {g : Cfg} {E : XK} {Q : VK} {H1 : Hp} {ι1 : List Addr} {r : R (List D)} (h : tRe g E ((noEx r).bind newL) H1 ι1 Q) : Fin g E Q H1 ι1 r := by
  cases r with
  | ok l s => exact h
  | ex x s => exact h.elim
  | no => exact h.elim
theorem Fin.bind {α β : Type} {g : Cfg} {E : XK} {Q : VK} {H H1 : Hp} {ι ι1 : List Addr} {Rl : Hp → List Addr → α → β → Prop} {r : R α} {f : α → S → R (List D)} (h : Fin g E Q H1 ι1 (r.bind f)) {Q' : β → Hp → Prop}
    (k : ∀ d s v H' ι', Fw g.K H ι H' ι' → RS g.K g.T H' ι' s → Rl H' ι' d v → Fin g E Q H1 ι1 (f d s) → Q' v H') : tR g E0 Rl r H ι Q' := by
  cases r with
  | ok d s => exact fun v H2 ι2 f2 a b => k d s v H2 ι2 f2 a b h
  | ex x s => exact h.elim
  | no => exact h.elim
/-- the state of a comprehension's loop -/
def LcW (g : Cfg) (E : XK) (Q : VK) (H1 : Hp) (ι1 : List Addr) (D : Addr) (sr : Src) (m : MG) (t : MT) (el : ME) (e0 : En) (σ0 : L2.St) (i n : Nat) (H : Hp) : Prop :=
  ∃ ι s acc xs, Fw g.K H1 ι1 H ι ∧ RS g.K g.T H ι s ∧ RE g.K H ι e0 σ0 ∧ D ∉ ι ∧ H D = some (.lst xs) ∧ RVs g.K H ι acc.reverse xs ∧ acc.length ≤ i ∧ i + n = 100000 ∧ Fin g E Q H1 ι1 (lcF sr m t el n i acc g.F e0 s)
theorem lc_sound {g : Cfg} {E : XK} {vs : List Nat} {wi : MI} {m : MG} {t : MT} {el : ME} : ∀ {σ : L2.St} {H : Hp} {Q : VK}, te g E (mLc wi m t el vs) σ H Q → tLc (ti g E wi) (gs g E0 vs m) (tt g E0 t) (te g E0 el) vs σ H Q := by
  rintro σ H Q ⟨ι, e, s, R, q, h⟩
  have h' : tRe g E ((wi g.F e s).bind fun q s1 => (noEx (lcF q m t el 100000 0 [] g.F (wipeE e vs) s1)).bind newL) H ι Q := by
    have := h
    unfold mLc cLc at this
    simp only [EV.R.bind_bind] at this
    exact this
  refine ⟨ι, e, s, R, q, tR.bind h' fun sr s1 J H1 ι1 _ f1 R1 r1 h1 => fun D hD => ?_⟩
  have hF := Fin.of h1
  refine ⟨fun i n H => LcW g E Q H1 ι1 D sr m t el (wipeE e vs) (wipe σ vs) i n H, ⟨100000, ι1, s1, [], [], Fw.new hD, R1.new hD, ((q.fw f1).wipe vs).fw (Fw.new hD), R1.notin hD, upd_same, .nil, Nat.le_refl _, rfl, hF⟩, ?_⟩
  rintro i n H2 ⟨ι2, s2, acc, xs, f2, R2, q2, n2, h2, r2, a2, b2, c2⟩
  cases n with
  | zero => exact c2.elim
  | succ n =>
    have fsrc : SrcOk g H1 ι1 sr J := r1
    obtain ⟨stp, go⟩ := fsrc H2 ι2 s2 f2 R2 i
    unfold lcF at c2
    cases ha : sr.at s2 i with
    | none => simp only [ha] at c2; exact c2.elim
    | some o =>
      simp only [ha] at c2
      cases o with
      | none =>
        refine .inl ⟨stp ha, ?_⟩
        obtain ⟨k1, k2, k3⟩ := R2.adopt f2 hD h2 n2 r2
        exact c2 _ _ _ k1 k2 k3
      | some d =>
        simp only at c2
        obtain ⟨g1, g2⟩ := go d ha
        refine .inr ⟨g1, fun H' => ∃ n', n' < n + 1 ∧ LcW g E Q H1 ι1 D sr m t el (wipeE e vs) (wipe σ vs) (i + 1) n' H', fun H' w => w, fun x H3 y => ?_⟩
        obtain ⟨f3, R3, rx⟩ := g2 x H3 y
        have h3 := f3.oth D _ h2 n2 fun ps z => by cases z
        refine ⟨ι2, wipeE e vs, s2, d, R3, q2.fw f3, rx, Fin.bind c2 fun e1 s3 σ2 H3' ι3' f3' R3' q3' c3 => ⟨q3'.2.trans wipe_wipe, ι3', e1, s3, R3', q3'.1, Fin.bind c3 fun b s4 b' H4 ι4 f4' R4 eb c4 => ?_⟩⟩
        have q3 := q3'.1
        subst eb
        have h3b := f3'.oth D _ h3 n2 fun ps z => by cases z
        have n3b := f3'.out h3 n2
        have h4 := f4'.oth D _ h3b n3b fun ps z => by cases z
        have n4 := f4'.out h3b n3b
        have ff := (f3.trans f3').trans f4'
        cases b with
        | false => exact ⟨n, Nat.lt_succ_self n, ι4, s4, acc, xs, f2.trans ff, R4, q2.fw ff, n4, h4, r2.fw ff, Nat.le_succ_of_le a2, by omega, c4⟩
        | true =>
          rw [if_pos rfl] at c4 ⊢
          refine ⟨ι4, e1, s4, R4, q3.fw f4', Fin.bind c4 fun y s5 v5 H5 ι5 f5 R5 r5 c5 => ?_⟩
          have h5 := f5.oth D _ h4 n4 fun ps z => by cases z
          have n5 := f5.out h4 n4
          have fg := ff.trans f5
          have hlen : xs.length = acc.length := by rw [← r2.length, List.length_reverse]
          obtain ⟨k1, k2, k3, k4, k5⟩ := R5.aside (ys := xs ++ [v5]) (f2.trans fg) hD h5 n5
          refine ⟨xs, h5, Nat.lt_of_lt_of_le (by omega : xs.length < 100000) (by decide), n, Nat.lt_succ_self n, ι5, s5, y :: acc, xs ++ [v5], k1, k2, k5 (q2.fw fg), n5, upd_same, ?_, by rw [List.length_cons]; omega, by omega, c5⟩
          rw [List.reverse_cons]
          exact k4 ((r2.fw fg).append (.cons r5 .nil))
section
variable {X : Cx} {g : Cfg} {E : XK} {pos : Pos}
/-- the blocks of comprehensions -/
def Blk (X : Cx) (scope : Scope) (P : Cx → Prop) : Prop := ∀ (s : Shared) (H : Hp) (C : Addr) (cl : List (Str × Addr)) (fp : List Addr), P (X.blk s H scope (compEnvC scope cl C X.env) fp)
theorem e_lc (A : At X g E) {elt tg iter : PySem.Expr} {ifs : List PySem.Expr} {scope : Scope} {own : List (Str × Nat)} {wi : MI} {m : MG} {t : MT} {el : ME} (hN : X.N.Nodup) (hi : PI X tg iter (ti g E wi)) (ok : BlkOk X.N X.env.scope scope own)
    (hg : Blk X scope fun Y => PG Y tg (gs g E0 (own.map (·.2)) m)) (ht : Blk X scope fun Y => PTs Y ifs (tt g E0 t)) (he : Blk X scope fun Y => PE Y elt (te g E0 el)) (hs : ∀ x, foldedSetIterable iter X.env x = pure x) :
    PE X (.ListComp elt [⟨tg, iter, ifs, 0⟩] scope pos) (te g E (mLc wi m t el (own.map (·.2)))) := PE.imp (pe_lc A.calm hN hi ok hg ht he hs) fun _ _ _ h => lc_sound h
def sSet (i : Nat) (a : ME) : MS := sAsg a (gNm i)
theorem s_setLc (A : At X g E) {i : Nat} {y : Str} {py : Pos} {elt tg iter : PySem.Expr} {ifs : List PySem.Expr} {scope : Scope} {own : List (Str × Nat)} {spos : Pos} {wi : MI} {m : MG} {t : MT} {el : ME} (hN : X.N.Nodup) (hy : X.N[i]? = some y) (hyl : X.env.scope.names.lookup y = some .local)
    (hsw : swapsWith (.ListComp elt [⟨tg, iter, ifs, 0⟩] scope pos) (some (.Name y py)) spos.line X.env = pure true) (hi : PI X tg iter (ti g E wi)) (ok : BlkOk X.N X.env.scope scope own)
    (hg : Blk X scope fun Y => PG Y tg (gs g E0 (own.map (·.2)) m)) (ht : Blk X scope fun Y => PTs Y ifs (tt g E0 t)) (he : Blk X scope fun Y => PE Y elt (te g E0 el)) (hs : ∀ x, foldedSetIterable iter X.env x = pure x) :
    PS X (.Assign [.Name y py] (.ListComp elt [⟨tg, iter, ifs, 0⟩] scope pos) spos) (ts g E (sAsg (mLc wi m t el (own.map (·.2))) (gNm i))) :=
  PS.imp (ps_setLc A.calm hN hy hyl hsw hi ok hg ht he hs) fun D σ H ⟨ι, e, s, R, q, h⟩ => lc_sound ⟨ι, e, s, R, q, tRs.bind h fun d s1 v H1 ι1 _ f1 R1 r1 h1 => h1 _ H1 ι1 Fw.refl R1 ((q.fw f1).set r1 i)⟩
theorem PTs.imp {X : Cx} {e : List PySem.Expr} {t t' : TT} (h : PTs X e t) (k : ∀ σ H Q, t' σ H Q → t σ H Q) : PTs X e t' := ⟨fun pins s σ H Q I q => h.run pins s σ H Q I (k σ H Q q)⟩
def tYesM : MT := fun _ _ s => .ok true s
theorem ts_nil : PTs X [] (tt g E tYesM) := PTs.imp pts_nil fun σ H Q ⟨ι, e, s, R, q, h⟩ => tR.of h R rfl
theorem ts_one {c : PySem.Expr} {t : MT} (h : PT X c (tt g E t)) : PTs X [c] (tt g E t) := pts_one h
end
end EV

namespace EV
open L2 PySem PySem.Spec PyProof.Rows

section
variable {X : Cx} {g : Cfg} {E : XK} {a b : PySem.Expr} {ma mb : ME} {mr : MA} {pos : Pos}
/-! ### items, slices -/
def itO (l : Option (List D)) (i : Int) (s : S) : R D := match l with
  | some l => match atI l i with
    | some d => .ok d s
    | none => .no
  | none => .no
def dIx : D → D → S → R D
  | .tup l, .int i, s => itO (some l) i s
  | .lst r, .int i, s => itO (s.seq r) i s
  | _, _, _ => .no
theorem RVs.atI {K : PySem.W.Frag} {H : Hp} {ι : List Addr} {ds : List D} {vs : List V} (h : RVs K H ι ds vs) {i : Int} {d : D} (e : L2.atI ds i = some d) : ∃ v, L2.atI vs i = some v ∧ RV K H ι d v := by
  unfold L2.atI at e ⊢
  rw [← h.length]
  cases hx : ixN ds.length i with
  | none => rw [hx] at e; cases e
  | some j =>
    rw [hx] at e
    exact h.get e
theorem ix_all (A : At X g E) : IxR X (ro g E dIx) := by
  intro value slice pins s σ H x y v u Q I rx ry ⟨ι, dx, dy, st, R, qx, qy, q⟩ hs
  cases qy with
  | int i =>
    cases qx with
    | @tup a l xs k1 k2 =>
      change tRe g E (itO (some l) i st) H ι Q at q
      unfold itO at q
      simp only at q
      cases hd : L2.atI l i with
      | none => rw [hd] at q; exact q.elim
      | some d =>
        rw [hd] at q
        obtain ⟨w, hw, rw'⟩ := RVs.atI k2 hd
        exact ix_tup value slice pins s σ H _ _ v u Q I rx ry ⟨a, xs, i, w, rfl, rfl, by rw [A.K]; exact k1, hw, tR.of q R rw'⟩ hs
    | @lst r a k1 =>
      change tRe g E (itO (st.seq r) i st) H ι Q at q
      unfold itO at q
      cases hl : st.seq r with
      | none => rw [hl] at q; exact q.elim
      | some l =>
        rw [hl] at q
        simp only at q
        cases hd : L2.atI l i with
        | none => rw [hd] at q; exact q.elim
        | some d =>
          rw [hd] at q
          obtain ⟨xs, hx, k2⟩ := R.seq k1 hl
          obtain ⟨w, hw, rw'⟩ := RVs.atI k2 hd
          exact ix_list value slice pins s σ H _ _ v u Q I rx ry ⟨a, xs, i, w, rfl, rfl, by rw [A.K]; exact hx, hw, tR.of q R rw'⟩ hs
    | _ => exact q.elim
  | _ => cases qx <;> exact q.elim
theorem e_ix (A : At X g E) (ha : PE X a (te g E ma)) (hb : PE X b (te g E mb)) (hs : PlainIx b) : PE X (.Subscript a b pos) (te g E (mOp dIx ma mb)) :=
  PE.imp (pe_ix (ix_all A) ha hb hs) fun σ H Q ⟨ι, e, s, R, q, h⟩ => ⟨ι, e, s, R, q, tR.bind h fun d s1 v H1 ι1 _ f1 R1 r1 h1 => ⟨ι1, e, s1, R1, q.fw f1, tR.bind h1 fun d2 s2 v2 H2 ι2 _ f2 R2 r2 h2 => ⟨ι2, d, d2, s2, R2, r1.fw f2, r2, h2⟩⟩⟩
/-- a part of a slice -/
abbrev MO := FT → En → S → R (Option Int)
def oNone : MO := fun _ _ s => .ok none s
def asI : D → S → R (Option Int)
  | .int i, s => .ok (some i) s
  | _, _ => .no
def oSome (a : ME) : MO := fun F e s => (a F e s).bind asI
def to (g : Cfg) (E : XK) (m : MO) : TO := fun σ H Q => ∃ ι e s, RS g.K g.T H ι s ∧ RE g.K H ι e σ ∧ tR g E (fun _ _ a b => a = b) (m g.F e s) H ι Q
theorem PO.imp {e : Option PySem.Expr} {t t' : TO} (h : PO X e t) (k : ∀ σ H Q, t' σ H Q → t σ H Q) : PO X e t' := ⟨fun pins s σ H Q I q => h.run pins s σ H Q I (k σ H Q q)⟩
theorem o_none : PO X none (to g E oNone) := PO.imp po_none fun σ H Q ⟨ι, e, s, R, q, h⟩ => tR.of h R rfl
theorem o_some (ha : PE X a (te g E ma)) : PO X (some a) (to g E (oSome ma)) :=
  PO.imp (po_some ha) fun σ H Q ⟨ι, e, s, R, q, h⟩ => ⟨ι, e, s, R, q, tR.bind h fun d s1 v H1 ι1 _ f1 R1 r1 h1 => by
    cases r1 with
    | int i => exact ⟨i, rfl, tR.of h1 R1 rfl⟩
    | _ => exact h1.elim⟩
def cutD (l : List D) (lo hi : Option Int) : List D := (l.drop (HT.sIx l.length 0 lo)).take (HT.sIx l.length l.length hi - HT.sIx l.length 0 lo)
theorem RVs.cut {K : PySem.W.Frag} {H : Hp} {ι : List Addr} {ds : List D} {vs : List V} (h : RVs K H ι ds vs) (lo hi : Option Int) : RVs K H ι (cutD ds lo hi) (cutV vs lo hi) := by
  unfold cutD cutV
  rw [← h.length]
  exact (h.drop _).take _
def slO (l : Option (List D)) (lo hi : Option Int) (s : S) : R D := match l with
  | some l => newL (cutD l lo hi) s
  | none => .no
def dSl (lo hi : Option Int) : D → S → R D
  | .tup l, s => .ok (.tup (cutD l lo hi)) s
  | .lst r, s => slO (s.seq r) lo hi s
  | _, _ => .no
def rsl (g : Cfg) (E : XK) : V → Option Int → Option Int → Hp → VK → Prop := fun x lo hi H Q => ∃ ι dx s, RS g.K g.T H ι s ∧ RV g.K H ι dx x ∧ tRe g E (dSl lo hi dx s) H ι Q
theorem newL_ok {ds : List D} {vs : List V} {s : S} {H : Hp} {ι : List Addr} {Q : VK} (R : RS g.K g.T H ι s) (r : RVs g.K H ι ds vs) (h : tRe g E (newL ds s) H ι Q) : ∀ p, H p = none → Q (.ref p) (upd H p (.lst vs)) := fun p hp =>
  h _ _ _ (Fw.newA hp) (R.alloc hp ⟨vs, upd_same, r.fw (Fw.newA hp)⟩) (.lst (by rw [← R.len]; simp))
theorem sl_all (A : At X g E) : SlR X (rsl g E) := by
  intro pins s σ H x v vl vu lo hi sl Q I rx hs pl pu ⟨ι, dx, st, R, qx, q⟩
  cases qx with
  | @tup a l xs k1 k2 =>
    have q' : tRe g E (.ok (.tup (cutD l lo hi)) st) H ι Q := q
    refine sl_tupA pins s σ H _ v vl vu lo hi sl Q I rx hs pl pu ⟨a, xs, rfl, by rw [A.K]; exact k1, fun w => ?_, fun w p hp => ?_⟩
    · have hc : cutV xs lo hi = xs := by
        unfold cutV
        rw [w.1, w.2]
        simp
      have r := k2.cut lo hi
      rw [hc] at r
      exact tR.of q' R (.tup k1 r)
    · exact q' _ _ _ (Fw.new hp) (R.new hp) (.tup (.inl (.inl upd_same)) ((k2.cut lo hi).fw (Fw.new hp)))
  | @lst r a k1 =>
    change tRe g E (slO (st.seq r) lo hi st) H ι Q at q
    cases hl : st.seq r with
    | none => rw [hl] at q; exact q.elim
    | some l =>
      rw [hl] at q
      obtain ⟨xs, hx, k2⟩ := R.seq k1 hl
      exact sl_list pins s σ H _ v vl vu lo hi sl Q I rx hs pl pu ⟨a, xs, rfl, by rw [A.K]; exact hx, newL_ok R (k2.cut lo hi) q⟩
  | _ => exact q.elim
def mSl (a : ME) (lo hi : MO) : ME := fun F e s => (a F e s).bind fun x s1 => (lo F e s1).bind fun l s2 => (hi F e s2).bind fun h s3 => dSl l h x s3
theorem e_sl (A : At X g E) {lo hi : Option PySem.Expr} {ml mh : MO} {p2 : Pos} (ha : PE X a (te g E ma)) (hl : PO X lo (to g E ml)) (hh : PO X hi (to g E mh)) : PE X (.Subscript a (.Slice lo hi none p2) pos) (te g E (mSl ma ml mh)) :=
  PE.imp (pe_slice (sl_all A) ha hl hh) fun σ H Q ⟨ι, e, s, R, q, h⟩ => ⟨ι, e, s, R, q, tR.bind h fun d s1 v H1 ι1 _ f1 R1 r1 h1 => ⟨ι1, e, s1, R1, q.fw f1, tR.bind h1 fun d2 s2 v2 H2 ι2 _ f2 R2 r2 h2 => ⟨ι2, e, s2, R2, (q.fw f1).fw f2, by
    subst r2
    exact tR.bind h2 fun d3 s3 v3 H3 ι3 _ f3 R3 r3 h3 => by
      subst r3
      exact ⟨ι3, d, s3, R3, (r1.fw f2).fw f3, h3⟩⟩⟩⟩

/-! ### built-in calls -/
def rcR (g : Cfg) (E : XK) (f : List D → S → R D) : List V → Hp → VK → Prop := rc g E f
theorem e_callB {id : String} {f : List D → S → R D} {x : Str} {p : Pos} {es : List PySem.Expr} (hc : CallR X (.builtin id) (rc g E f)) (hg : Gl X x) (hm : X.mg x = none) (hv : bootBuiltins x = some (.builtin id)) (ha : PA X (a :: es) (ta g E mr)) (hn : x ≠ "__name__") (hdb : (x == ("__debug__" : Str)) = false)
    (he : starEach (a :: es) X.env = (false, eval a X.env) :: starEach es X.env) (hpl : (backTo pos (starEach es X.env)).any (·.1) = false) : PE X (.Call (.Name x p) (a :: es) [] pos) (te g E (mCall f mr)) :=
  PE.imp (pe_callB hc hg hm hv ha hn hdb he hpl) fun σ H Q ⟨ι, e, s, R, q, h⟩ => ⟨ι, e, s, R, q, tR.bind h fun ds s1 vs H1 ι1 _ f1 R1 r1 h1 => ⟨ι1, ds, s1, R1, r1, h1⟩⟩
theorem e_callTy {T : String} {f : List D → S → R D} {x : Str} {p : Pos} {es : List PySem.Expr} (hc : CallR X (.type T) (rc g E f)) (hg : Gl X x) (hm : X.mg x = none) (hv : bootBuiltins x = some (.type T)) (ha : PA X (a :: es) (ta g E mr)) (hn : x ≠ "__name__") (hdb : (x == ("__debug__" : Str)) = false)
    (he : starEach (a :: es) X.env = (false, eval a X.env) :: starEach es X.env) (hpl : (backTo pos (starEach es X.env)).any (·.1) = false) : PE X (.Call (.Name x p) (a :: es) [] pos) (te g E (mCall f mr)) :=
  PE.imp (pe_callTy hc hg hm hv ha hn hdb he hpl) fun σ H Q ⟨ι, e, s, R, q, h⟩ => ⟨ι, e, s, R, q, tR.bind h fun ds s1 vs H1 ι1 _ f1 R1 r1 h1 => ⟨ι1, ds, s1, R1, r1, h1⟩⟩
def bAbs : List D → S → R D
  | [.int i], s => .ok (.int (if i < 0 then -i else i)) s
  | _, _ => .no
theorem c_abs : CallR X (.builtin "abs") (rc g E bAbs) := by
  intro pins s σ H xs us Q I r ⟨ι, ds, st, R, rv, q⟩
  unfold bAbs at q
  split at q
  · rename_i i
    cases rv with
    | cons r1 r2 =>
      cases r2
      cases r1
      exact call_abs pins s σ H _ us Q I r ⟨i, rfl, tR.of q R (.int _)⟩
  · exact q.elim
def lenO (l : Option (List D)) (s : S) : R D := match l with
  | some l => .ok (.int l.length) s
  | none => .no
def bLen : List D → S → R D
  | [.tup l], s => .ok (.int l.length) s
  | [.lst r], s => lenO (s.seq r) s
  | _, _ => .no
theorem c_len (A : At X g E) : CallR X (.builtin "len") (rc g E bLen) := by
  intro pins s σ H xs us Q I r ⟨ι, ds, st, R, rv, q⟩
  unfold bLen at q
  split at q
  · rename_i l
    cases rv with
    | cons r1 r2 =>
      cases r2
      cases r1 with
      | tup k1 k2 => exact call_len_seq pins s σ H _ us Q I r ⟨_, _, rfl, .inr (by rw [A.K]; exact k1), by rw [← k2.length]; exact tR.of q R (.int _)⟩
  · rename_i r'
    cases rv with
    | cons r1 r2 =>
      cases r2
      cases r1 with
      | lst k1 =>
        unfold lenO at q
        cases hl : st.seq r' with
        | none => rw [hl] at q; exact q.elim
        | some l =>
          rw [hl] at q
          obtain ⟨ys, hx, k2⟩ := R.seq k1 hl
          exact call_len_seq pins s σ H _ us Q I r ⟨_, ys, rfl, .inl (by rw [A.K]; exact hx), by rw [← k2.length]; exact tR.of q R (.int _)⟩
  · exact q.elim
def listO (l : Option (List D)) (s : S) : R D := match l with
  | some l => newL l s
  | none => .no
def bList : List D → S → R D
  | [.tup l], s => newL l s
  | [.lst r], s => listO (s.seq r) s
  | _, _ => .no
theorem c_list (A : At X g E) : CallR X (.type "list") (rc g E bList) := by
  intro pins s σ H xs us Q I r ⟨ι, ds, st, R, rv, q⟩
  unfold bList at q
  split at q
  · rename_i l
    cases rv with
    | cons r1 r2 =>
      cases r2
      cases r1 with
      | tup k1 k2 => exact call_list_of pins s σ H _ us Q I r ⟨_, _, rfl, .inr (by rw [A.K]; exact k1), newL_ok R k2 q⟩
  · rename_i r'
    cases rv with
    | cons r1 r2 =>
      cases r2
      cases r1 with
      | lst k1 =>
        unfold listO at q
        cases hl : st.seq r' with
        | none => rw [hl] at q; exact q.elim
        | some l =>
          rw [hl] at q
          obtain ⟨ys, hx, k2⟩ := R.seq k1 hl
          exact call_list_of pins s σ H _ us Q I r ⟨_, ys, rfl, .inl (by rw [A.K]; exact hx), newL_ok R k2 q⟩
  · exact q.elim
def tupO (l : Option (List D)) (s : S) : R D := match l with
  | some l => .ok (.tup l) s
  | none => .no
def bTuple : List D → S → R D
  | [.tup l], s => .ok (.tup l) s
  | [.lst r], s => tupO (s.seq r) s
  | _, _ => .no
theorem c_tuple (A : At X g E) : CallR X (.type "tuple") (rc g E bTuple) := by
  intro pins s σ H xs us Q I r ⟨ι, ds, st, R, rv, q⟩
  unfold bTuple at q
  split at q
  · rename_i l
    cases rv with
    | cons r1 r2 =>
      cases r2
      cases r1 with
      | tup k1 k2 => exact call_tuple_of pins s σ H _ us Q I r ⟨_, _, rfl, .inr ⟨by rw [A.K]; exact k1, tR.of q R (.tup k1 k2)⟩⟩
  · rename_i r'
    cases rv with
    | cons r1 r2 =>
      cases r2
      cases r1 with
      | lst k1 =>
        unfold tupO at q
        cases hl : st.seq r' with
        | none => rw [hl] at q; exact q.elim
        | some l =>
          rw [hl] at q
          obtain ⟨ys, hx, k2⟩ := R.seq k1 hl
          exact call_tuple_of pins s σ H _ us Q I r ⟨_, ys, rfl, .inl ⟨by rw [A.K]; exact hx, fun p hp => q _ _ _ (Fw.new hp) (R.new hp) (.tup (.inl (.inl upd_same)) (k2.fw (Fw.new hp)))⟩⟩
  · exact q.elim
def bInt : List D → S → R D
  | [.int i], s => .ok (.int i) s
  | [.bl k], s => .ok (.int (if k then 1 else 0)) s
  | _, _ => .no
theorem c_int : CallR X (.type "int") (rc g E bInt) := by
  intro pins s σ H xs us Q I r ⟨ι, ds, st, R, rv, q⟩
  unfold bInt at q
  split at q
  · rename_i i
    cases rv with
    | cons r1 r2 =>
      cases r2
      cases r1
      exact call_int1 pins s σ H _ us Q I r (.inl ⟨i, rfl, tR.of q R (.int _)⟩)
  · rename_i k
    cases rv with
    | cons r1 r2 =>
      cases r2
      cases r1
      exact call_int1 pins s σ H _ us Q I r (.inr ⟨k, rfl, tR.of q R (.int _)⟩)
  · exact q.elim
def isB : D → Option Bool
  | .bl b => some b
  | _ => none
def bsO (l : Option (List D)) (f : List Bool → Bool) (s : S) : R D := match l with
  | some l => match allO (l.map isB) with
    | some bs => .ok (.bl (f bs)) s
    | none => .no
  | none => .no
def bAll : List D → S → R D
  | [.lst r], s => bsO (s.seq r) (fun bs => bs.all id) s
  | _, _ => .no
def bAny : List D → S → R D
  | [.lst r], s => bsO (s.seq r) (fun bs => bs.any id) s
  | _, _ => .no
theorem RVs.bools {K : PySem.W.Frag} {H : Hp} {ι : List Addr} : ∀ {l : List D} {xs : List V} {bs : List Bool}, RVs K H ι l xs → allO (l.map isB) = some bs → xs = bs.map V.bl
  | _, _, _, .nil, e => by cases e; rfl
  | d :: l, _, bs, .cons h hs, e => by
    rw [List.map_cons] at e
    cases h with
    | bl b =>
      unfold isB allO at e
      split at e
      · rename_i r hr
        cases e
        rw [RVs.bools hs hr]
        rfl
      · cases e
    | _ => cases e
theorem bs_ok {r : Nat} {f : List Bool → Bool} {s : S} {H : Hp} {ι : List Addr} {Q : VK} {v : V} (R : RS g.K g.T H ι s) (h : RV g.K H ι (.lst r) v) (q : tRe g E (bsO (s.seq r) f s) H ι Q) : ∃ a bs, v = .ref a ∧ SqL g.K H a (bs.map V.bl) ∧ Q (.bl (f bs)) H := by
  cases h with
  | lst k1 =>
    unfold bsO at q
    cases hl : s.seq r with
    | none => rw [hl] at q; exact q.elim
    | some l =>
      rw [hl] at q
      simp only at q
      cases hb : allO (l.map isB) with
      | none => rw [hb] at q; exact q.elim
      | some bs =>
        rw [hb] at q
        obtain ⟨xs, hx, k2⟩ := R.seq k1 hl
        rw [RVs.bools k2 hb] at hx
        exact ⟨_, bs, rfl, hx, tR.of q R (.bl _)⟩
end
end EV

namespace EV
open L2 PySem PySem.Spec PyProof.Rows

/-! ### the program's defs, its names -/
structure Row where
  x : Str
  st : PySem.Stmt
  ps : List Str
  N : List Str
  m : MS
inductive GV where
  | fn (i : Nat) | bi | mf (id : String) | cst (d : D) | exc (c : Nat)
def finF (r : R Fl) : R D := match r with
  | .ok (.nx _) s => .ok .non s
  | .ok (.rt d) s => .ok d s
  | .ok _ _ => .no
  | .ex x s => .ex x s
  | .no => .no
def startE (k : Nat) (ds : List D) : En := ds.map some ++ List.replicate (k - ds.length) none
def runRow (r : Option Row) (F : FT) (ds : List D) (s : S) : R D := match r with
  | some r => if ds.length = r.ps.length then finF (r.m F (startE r.N.length ds) s) else .no
  | none => .no
def run (B : List Row) : Nat → FT
  | 0 => fun _ _ _ => .no
  | n + 1 => fun i ds s => runRow B[i]? (run B n) ds s
def spEv (g : Cfg) (i : Nat) : Sp := fun vs H Q E => ∃ ι ds s, RS g.K g.T H ι s ∧ RVs g.K H ι ds vs ∧ tRe g E (g.F i ds s) H ι Q
/-- what the program's top says of a name -/
def GvOk (X : Cx) (B : List Row) (g : Cfg) (n : Nat) (x : Str) : GV → Prop
  | .fn i => ∀ r, B[i]? = some r → r.x = x ∧ ∃ f fd, X.mg x = some (.ref f) ∧ Fun X.K x x r.st f fd ∧ FnOk X.prog X.w X.K X.mg X.base (L2.CX X.prog X.w) n f fd r.ps (spEv g i)
  | .bi => X.mg x = none
  | .mf id => X.mg x = some (.builtin id)
  | .cst d => ∃ v u, X.mg x = some u ∧ RelV v u ∧ ∀ H ι, RV X.K H ι d v
  | .exc _ => True
abbrev Ns := List (Str × NameKind)
/-- where a text is read -/
structure Ct (X : Cx) (B : List Row) (Z : List (Str × GV)) (g : Cfg) (E : XK) (n : Nat) (N : List Str) (ns : Ns) : Prop where
  at_ : At X g E
  eN : X.N = N
  nd : N.Nodup
  room : Room n X.A
  l : ∀ x, ns.lookup x = some .local → X.env.scope.names.lookup x = some .local
  c : ∀ x, ns.lookup x = some .cell → X.env.scope.names.lookup x = some .cell
  f : ∀ x, ns.lookup x = some .free → X.env.scope.names.lookup x = some .free ∨ X.env.scope.names.lookup x = some .cell
  gl : ∀ x, ns.lookup x = some .globalImplicit → X.env.scope.names.lookup x = some .globalImplicit
  fnc : ∀ x, ns.lookup x = some .cell → X.fn x = true
  kind : X.env.scope.kind = .function
  nm : ∀ x v, Z.lookup x = some v → GvOk X B g n x v
def visB (ns : Ns) (x : Str) : Bool := match ns.lookup x with
  | some .local => true
  | some .cell => true
  | some .free => true
  | _ => false
def locB (ns : Ns) (x : Str) : Bool := match ns.lookup x with
  | some .local => true
  | some .cell => true
  | _ => false
def lclB (ns : Ns) (x : Str) : Bool := match ns.lookup x with
  | some .local => true
  | _ => false
def glB (ns : Ns) (x : Str) : Bool := match ns.lookup x with
  | some .globalImplicit => true
  | _ => false
def nthB (N : List Str) (i : Nat) (x : Str) : Bool := match N[i]? with
  | some y => y == x
  | none => false
section
variable {X : Cx} {B : List Row} {Z : List (Str × GV)} {g : Cfg} {E : XK} {n : Nat} {N : List Str} {ns : Ns} {x : Str}
theorem Ct.vis (C : Ct X B Z g E n N ns) (h : visB ns x = true) : Vis X.env.scope x := by
  unfold visB at h
  split at h
  · exact .inl (C.l _ (by assumption))
  · exact .inr (.inl (C.c _ (by assumption)))
  · rcases C.f _ (by assumption) with z | z
    · exact .inr (.inr z)
    · exact .inr (.inl z)
  · cases h
theorem Ct.loc (C : Ct X B Z g E n N ns) (h : locB ns x = true) : Loc X.env.scope x := by
  unfold locB at h
  split at h
  · exact .inl (C.l _ (by assumption))
  · exact .inr (C.c _ (by assumption))
  · cases h
theorem Ct.locf (C : Ct X B Z g E n N ns) (h : locB ns x = true) : X.fn x = true ∨ X.env.scope.names.lookup x = some .local := by
  unfold locB at h
  split at h
  · exact .inr (C.l _ (by assumption))
  · exact .inl (C.fnc _ (by assumption))
  · cases h
theorem Ct.lcl (C : Ct X B Z g E n N ns) (h : lclB ns x = true) : X.env.scope.names.lookup x = some .local := by
  unfold lclB at h
  split at h
  · exact C.l _ (by assumption)
  · cases h
theorem Ct.glob (C : Ct X B Z g E n N ns) (h : glB ns x = true) : Gl X x := by
  unfold glB at h
  split at h
  · exact C.gl _ (by assumption)
  · cases h
theorem Ct.nth (C : Ct X B Z g E n N ns) {i : Nat} (h : nthB N i x = true) : X.N[i]? = some x := by
  rw [C.eN]
  unfold nthB at h
  split at h
  · rename_i y hy
    rw [hy, beq_iff_eq.mp h]
  · cases h
theorem look_relabel_free {env : Env} : ∀ {names : List (Str × NameKind)} {x : Str}, names.lookup x = some .free → (names.map fun (n, k) => if (k == NameKind.free && env.scope.kind == .function && env.kindOf n == some .cell) then (n, NameKind.cell) else (n, k)).lookup x = some .free ∨
    (names.map fun (n, k) => if (k == NameKind.free && env.scope.kind == .function && env.kindOf n == some .cell) then (n, NameKind.cell) else (n, k)).lookup x = some .cell
  | [], _, h => by simp at h
  | (n, k) :: r, x, h => by
    have ih := @look_relabel_free env r x
    rw [List.map_cons]
    by_cases hc : (k == NameKind.free && env.scope.kind == .function && env.kindOf n == some .cell) = true
    · simp only [hc, if_true]
      rw [List.lookup_cons] at h ⊢
      cases hx : x == n with
      | true => exact .inr rfl
      | false => simp only [hx] at h; exact ih h
    · simp only [hc]
      rw [List.lookup_cons] at h
      cases hx : x == n with
      | true => simp only [hx] at h; cases h; left; simp [List.lookup_cons, hx]
      | false =>
        simp only [hx] at h
        simp only [List.lookup_cons, hx, Bool.false_eq_true, if_false]
        exact ih h
theorem look_relabel_keep {env : Env} : ∀ {names : List (Str × NameKind)} {x : Str} {k : NameKind}, k ≠ .free → names.lookup x = some k → (names.map fun (n, k) => if (k == NameKind.free && env.scope.kind == .function && env.kindOf n == some .cell) then (n, NameKind.cell) else (n, k)).lookup x = some k
  | [], _, _, _, h => by simp at h
  | (n, k0) :: r, x, k, hk, h => by
    have ih := @look_relabel_keep env r x k hk
    rw [List.map_cons]
    rw [List.lookup_cons] at h
    cases hx : x == n with
    | true =>
      simp only [hx] at h
      cases h
      have hc : ¬ (k0 == NameKind.free && env.scope.kind == .function && env.kindOf n == some .cell) = true := by simp [hk]
      simp only [hc]
      simp [List.lookup_cons, hx]
    | false =>
      simp only [hx] at h
      by_cases hc : (k0 == NameKind.free && env.scope.kind == .function && env.kindOf n == some .cell) = true
      · simp only [hc, if_true, List.lookup_cons, hx]
        exact ih h
      · simp only [hc, Bool.false_eq_true, if_false, List.lookup_cons, hx]
        exact ih h
/-- within a comprehension's block -/
theorem Ct.in_ (C : Ct X B Z g E n N ns) {scope : Scope} (hk : scope.kind = .function) {s : Shared} {H : Hp} {cl : List (Str × Addr)} {c : Addr} {fp : List Addr} : Ct (X.blk s H scope (compEnvC scope cl c X.env) fp) B Z g E0 n N scope.names where
  at_ := ⟨C.at_.K, C.at_.calm, C.at_.un, takes0, PassesOwn.never⟩
  eN := C.eN
  nd := C.nd
  room := C.room
  l := fun x h => look_relabel_keep (by decide) h
  c := fun x h => look_relabel_keep (by decide) h
  f := fun x h => look_relabel_free h
  gl := fun x h => look_relabel_keep (by decide) h
  fnc := fun x h => by
    show (scope.names.lookup x == some .cell) = true
    rw [h]; rfl
  kind := hk
  nm := fun x v h => by
    have z := C.nm x v h
    cases v with
    | fn i => exact z
    | bi => exact z
    | mf id => exact z
    | cst d => exact z
    | exc c => exact z
end
end EV

namespace EV
open L2 PySem PySem.Spec PyProof.Rows

section
variable {X : Cx} {B : List Row} {Z : List (Str × GV)} {g : Cfg} {E : XK} {n : Nat} {N : List Str} {ns : Ns} {x : Str} {p pos : Pos} {a e : PySem.Expr} {es : List PySem.Expr} {ma : ME} {mr : MA}
def varB (N : List Str) (ns : Ns) (i : Nat) (x : Str) : Bool := nthB N i x && visB ns x && !(x == ("__debug__" : Str)) && !(x == ("__classdict__" : Str))
/-- a name of the def -/
theorem v_ (C : Ct X B Z g E n N ns) (i : Nat) (h : varB N ns i x = true) : PE X (.Name x pos) (te g E (mVar i)) := by
  unfold varB at h
  simp only [Bool.and_eq_true, Bool.not_eq_true'] at h
  obtain ⟨⟨⟨h1, h2⟩, h3⟩, h4⟩ := h
  exact e_var (C.nth h1) (C.vis h2) h3 h4
def glB' (ns : Ns) (x : Str) : Bool := glB ns x && !(x == ("__debug__" : Str)) && !(x == ("__name__" : Str))
theorem glB_of (h : glB' ns x = true) : glB ns x = true ∧ (x == ("__debug__" : Str)) = false ∧ x ≠ "__name__" := by
  unfold glB' at h
  simp only [Bool.and_eq_true, Bool.not_eq_true'] at h
  exact ⟨h.1.1, h.1.2, fun z => by rw [z] at h; exact absurd h.2 (by decide)⟩
/-- a constant of the module -/
theorem k_ (C : Ct X B Z g E n N ns) (d : D) (hz : Z.lookup x = some (.cst d)) (h : glB' ns x = true) : PE X (.Name x pos) (te g E (mC d)) := by
  obtain ⟨h1, h2, h3⟩ := glB_of h
  obtain ⟨v, u, k1, k2, k3⟩ := C.nm x _ hz
  exact e_c (pe_glob (C.glob h1) k1 k2 h2) fun H ι => by
    have := k3 H ι
    rw [C.at_.K] at this
    exact this
theorem i_ (i : Int) {j : Nat} : PE X (.Constant (.int i) j pos) (te g E (mC (.int i))) := e_c pe_int fun _ _ => .int _
theorem b_ (b : Bool) {j : Nat} : PE X (.Constant (.bool b) j pos) (te g E (mC (.bl b))) := e_c pe_bl fun _ _ => .bl _
theorem n_ {j : Nat} : PE X (.Constant .none j pos) (te g E (mC .non)) := e_c pe_non fun _ _ => .non
theorem s_ (y : Str) {j : Nat} : PE X (.Constant (.str y) j pos) (te g E (mC (.str y))) := e_c pe_str fun _ _ => .str _

/-! ### calls of defs -/
def mFn (i : Nat) (a : MA) : ME := fun F e s => (a F e s).bind fun xs s1 => F i xs s1
theorem pass_at (A : At X g E) : Passes (L2.CX X.prog X.w) X E := passes_call A.tk fun _ _ _ _ h => h
theorem sp_at {i : Nat} {σ : L2.St} {H : Hp} {Q : VK} {mr : MA} (h : te g E (mFn i mr) σ H Q) : ta g E mr σ H fun vs H1 => spEv g i vs H1 Q E := by
  obtain ⟨ι, e, s, R, q, h⟩ := h
  exact ⟨ι, e, s, R, q, tR.bind h fun ds s1 vs H1 ι1 _ f1 R1 r1 h1 => ⟨ι1, ds, s1, R1, r1, h1⟩⟩
theorem e_fn (C : Ct X B Z g E n N ns) (i : Nat) {r : Row} (hz : Z.lookup x = some (.fn i)) (hr : B[i]? = some r) (hb : ∀ {f : Addr} {fd : FuncData}, Fun X.K r.x r.x r.st f fd → Binds X.K fd r.ps []) (h : glB' ns x = true)
    (ha : PA X (e :: es) (ta g E mr)) (he : starEach (e :: es) X.env = (false, eval e X.env) :: starEach es X.env := by rfl) (hpl : (backTo pos (starEach es X.env)).any (·.1) = false := by rfl) : PE X (.Call (.Name x p) (e :: es) [] pos) (te g E (mFn i mr)) := by
  obtain ⟨h1, h2, h3⟩ := glB_of h
  obtain ⟨rx, f, fd, k1, k2, k3⟩ := C.nm x _ hz r hr
  subst rx
  exact PE.imp (pe_call k3 C.room (C.glob h1) k1 k2.kp (hb k2) .nil (pass_at C.at_) ha h2 he hpl) fun σ H Q h => by
    have z := sp_at h
    exact (show ta g E mr σ H fun vs H1 => spEv g i (vs ++ []) H1 Q E from by simpa only [List.append_nil] using z)
theorem e_fn0 (C : Ct X B Z g E n N ns) (i : Nat) {r : Row} (hz : Z.lookup x = some (.fn i)) (hr : B[i]? = some r) (hb : ∀ {f : Addr} {fd : FuncData}, Fun X.K r.x r.x r.st f fd → Binds X.K fd r.ps []) (h : glB' ns x = true) : PE X (.Call (.Name x p) [] [] pos) (te g E (mFn i mNil)) := by
  obtain ⟨h1, h2, h3⟩ := glB_of h
  obtain ⟨rx, f, fd, k1, k2, k3⟩ := C.nm x _ hz r hr
  subst rx
  exact PE.imp (pe_call0 k3 C.room (C.glob h1) k1 k2.kp (hb k2) .nil (pass_at C.at_) h2) fun σ H Q ⟨ι, e, s, R, q, h⟩ => (⟨ι, [], s, R, .nil, h⟩ : spEv g i ([] ++ []) H Q E)
/-- keywords alone -/
def gP {α : Type} (m : Nat) (perm : List Nat) (us ws : List α) : List α := if us.isEmpty && ws.length == m then perm.filterMap fun j => ws[j]? else []
theorem gP_vals {m : Nat} {perm : List Nat} {us ws : List Value} {vs zs : List V} (h : Vals vs us) (h' : Vals zs ws) : Vals (gP m perm vs zs) (gP m perm us ws) := by
  have e1 : vs.isEmpty = us.isEmpty := by cases h <;> rfl
  have e2 : zs.length = ws.length := h'.length
  unfold gP
  rw [e1, e2]
  split
  · clear e1
    induction perm with
    | nil => exact .nil
    | cons j l ih =>
      cases hj : zs[j]? with
      | some v =>
        obtain ⟨u, k1, k2⟩ := h'.get hj
        rw [List.filterMap_cons, List.filterMap_cons, hj, k1]
        exact .cons k2 ih
      | none =>
        have k1 : ws[j]? = none := List.getElem?_eq_none (by have := List.getElem?_eq_none_iff.mp hj; omega)
        rw [List.filterMap_cons, List.filterMap_cons, hj, k1]
        exact ih
  · exact .nil
theorem gP_rvs {K : PySem.W.Frag} {H : Hp} {ι : List Addr} {m : Nat} {perm : List Nat} {us ws : List D} {vs zs : List V} (h : RVs K H ι us vs) (h' : RVs K H ι ws zs) : RVs K H ι (gP m perm us ws) (gP m perm vs zs) := by
  have e1 : us.isEmpty = vs.isEmpty := h.isEmpty
  have e2 : ws.length = zs.length := h'.length
  unfold gP
  rw [e1, e2]
  split
  · clear e1
    induction perm with
    | nil => exact .nil
    | cons j l ih =>
      cases hj : ws[j]? with
      | some v =>
        obtain ⟨u, k1, k2⟩ := h'.get hj
        rw [List.filterMap_cons, List.filterMap_cons, hj, k1]
        exact .cons k2 ih
      | none =>
        have k1 : zs[j]? = none := List.getElem?_eq_none (by have := List.getElem?_eq_none_iff.mp hj; omega)
        rw [List.filterMap_cons, List.filterMap_cons, hj, k1]
        exact ih
  · exact .nil
/-- how keywords alone bind -/
theorem kb_of {K : PySem.W.Frag} {fd : FuncData} {ps ks : List Str} {m : Nat} {perm : List Nat} (hm : ps.length = m) (h0 : 0 < m) (h : ∀ ws : List Value, ws.length = m → bindArgs fd ⟨[], ks.zip ws⟩ = pure (ps.zip (perm.filterMap fun j => ws[j]?))) : KBinds K fd ps ks (gP m perm) (gP m perm) where
  to := fun s us ws _ hl => by
    unfold gP at hl ⊢
    split at hl
    · rename_i hc
      simp only [Bool.and_eq_true, List.isEmpty_iff, beq_iff_eq] at hc
      obtain ⟨rfl, h2⟩ := hc
      rw [if_pos (by simp [h2])]
      exact .of_eq (h ws h2)
    · rw [hm] at hl
      simp at hl
      omega
  rel := fun r r' => gP_vals r r'
def mFnK (i m : Nat) (perm : List Nat) (a : MA) : ME := fun F e s => (a F e s).bind fun xs s1 => F i (gP m perm [] xs) s1
theorem PK.imp {kws : List PySem.Keyword} {t t' : TA} (h : PK X kws t) (k : ∀ σ H Q, t' σ H Q → t σ H Q) : PK X kws t' := ⟨fun pos pins s σ H Q I q => h.run pos pins s σ H Q I (k σ H Q q)⟩
theorem kw_nil : PK X [] (ta g E mNil) := PK.imp pk_nil fun σ H Q ⟨ι, e, s, R, q, h⟩ => h [] H ι Fw.refl R .nil
theorem kw_cons {nm : Option Str} {kpos : Pos} {kws : List PySem.Keyword} {mr : MA} (ha : PE X a (te g E ma)) (hr : PK X kws (ta g E mr)) : PK X (⟨nm, a, kpos⟩ :: kws) (ta g E (mCons ma mr)) :=
  PK.imp (pk_cons ha hr) fun σ H Q ⟨ι, e, s, R, q, h⟩ => ⟨ι, e, s, R, q, tR.bind h fun d s1 v H1 ι1 _ f1 R1 r1 h1 => ⟨ι1, e, s1, R1, q.fw f1, tR.bind h1 fun ds s2 vs H2 ι2 _ f2 R2 r2 h2 => h2 (v :: vs) H2 ι2 Fw.refl R2 (.cons (r1.fw f2) r2)⟩⟩
theorem e_fnK (C : Ct X B Z g E n N ns) (i m : Nat) (perm : List Nat) (ks : List Str) {r : Row} {kws : List PySem.Keyword} (hz : Z.lookup x = some (.fn i)) (hr : B[i]? = some r) (hb : ∀ {f : Addr} {fd : FuncData}, Fun X.K r.x r.x r.st f fd → KBinds X.K fd r.ps ks (gP m perm) (gP m perm)) (h : glB' ns x = true)
    (hkw : PK X kws (ta g E mr)) (hall : (backToKw pos (keywordEach kws X.env)).all (·.1.isSome) = true := by rfl) (hks : (backToKw pos (keywordEach kws X.env)).filterMap (·.1) = ks := by rfl)
    (hpl : ((backTo pos (starEach [] X.env)).any (·.1) || (backToKw pos (keywordEach kws X.env)).any (·.1.isNone)) = false := by rfl) : PE X (.Call (.Name x p) [] kws pos) (te g E (mFnK i m perm mr)) := by
  obtain ⟨h1, h2, h3⟩ := glB_of h
  obtain ⟨rx, f, fd, k1, k2, k3⟩ := C.nm x _ hz r hr
  subst rx
  refine ⟨fun pins s σ H Q I ⟨ι, en, st, R, q, h⟩ => ?_⟩
  refine wpAny_Call_Name_kw (ld_glob I (C.glob h1) k1 ?_ h2)
  refine PySem.W.callWith_KW0 (h₀ := X.base) I.ok.mod.kin k2.kp hall ?_ hpl
  refine thn (hkw.run pos pins s σ H _ I ⟨ι, en, st, R, q, tR.bind h fun ds s1 vs H1 ι1 _ f1 R1 r1 h1 => (⟨ι1, ds, s1, R1, r1, h1⟩ : ∃ ι1 ds s1, RS g.K g.T H1 ι1 s1 ∧ RVs g.K H1 ι1 ds vs ∧ tRe g E (g.F i (gP m perm [] ds) s1) H1 ι1 Q)⟩) fun ws s2 ⟨zs, H2, I2, rz, ι1, ds, s1, R1, r1, q2⟩ => ⟨I2.kIn, ?_⟩
  rw [hks]
  exact run_fnk (us := []) (vs := []) k3 C.room (hb k2) (pass_at C.at_) I2 .nil rz ⟨ι1, _, s1, R1, gP_rvs .nil r1, q2⟩

/-! ### the defs, one behind the other -/
def cfg (K : PySem.W.Frag) (T : List Addr) (RX : Hp → List Addr → Ex → Value → Option Addr → Prop) (B : List Row) (n : Nat) : Cfg := ⟨K, T, run B n, RX⟩
/-- a def keeps its reading wherever it is read -/
structure RowOk (B : List Row) (Z : List (Str × GV)) (RX : PySem.W.Frag → List Addr → Hp → List Addr → Ex → Value → Option Addr → Prop) (PX : Cx → Prop) (r : Row) : Prop where
  sc : FnScope r.N r.ps (defScope r.st)
  body : ∀ {X : Cx} {K : PySem.W.Frag} {T : List Addr} {E : XK} {n : Nat}, PX X → (X.stack = X.env :: X.outer ∧ X.env.frame = some X.env.locals) → Ct X B Z (cfg K T (RX K T) B n) E (n + 2) r.N (defScope r.st).names → PSs X (defBody r.st) (ts (cfg K T (RX K T) B n) E r.m)
theorem RE.start {K : PySem.W.Frag} {H : Hp} {ι : List Addr} {N : List Str} {ds : List D} {vs : List V} (r : RVs K H ι ds vs) : RE K H ι (startE N.length ds) (start N vs) := by
  have hl := r.length
  refine ⟨by simp [startE, L2.start, hl], fun i d e => ?_⟩
  unfold startE at e
  unfold L2.start
  by_cases hi : i < ds.length
  · rw [List.getElem?_append_left (by simpa using hi), List.getElem?_map] at e
    cases hd : ds[i]? with
    | none => rw [hd] at e; cases e
    | some d' =>
      rw [hd] at e
      cases e
      obtain ⟨v, k1, k2⟩ := r.get hd
      exact ⟨v, by rw [List.getElem?_append_left (by rw [List.length_map]; omega), List.getElem?_map, k1] <;> rfl, k2⟩
  · rw [List.getElem?_append_right (by rw [List.length_map]; omega)] at e
    rw [List.getElem?_replicate] at e
    split at e <;> cases e
theorem fin_ts {g : Cfg} {E : XK} {r : R Fl} {H : Hp} {ι : List Addr} {Q : VK} (h : tRe g E (finF r) H ι Q) : tRs g E r H ι { nx := fun _ H' => Q .non H', rt := Q } := by
  cases r with
  | ok d s =>
    cases d with
    | nx e => exact fun σ' H' ι' f R _ => h _ H' ι' f R .non
    | rt d => exact fun v H' ι' f R q => h v H' ι' f R q
    | bk e => exact h.elim
    | ct e => exact h.elim
  | ex x s => exact h
  | no => exact h
theorem fn_ok {P : Program} {w : World} {K : PySem.W.Frag} {mg : Str → Option Value} {base : Heap} {T : List Addr} {B : List Row} {Z : List (Str × GV)} {RX : PySem.W.Frag → List Addr → Hp → List Addr → Ex → Value → Option Addr → Prop} {PX : Cx → Prop}
    (hB : ∀ r ∈ B, RowOk B Z RX PX r) (hfn : ∀ (i : Nat) (r : Row), B[i]? = some r → ∃ f fd, mg r.x = some (.ref f) ∧ Fun K r.x r.x r.st f fd)
    (hPX : ∀ X : Cx, X.K = K → X.mg = mg → X.prog = P → X.w = w → X.base = base → PX X)
    (hZ : ∀ x v, Z.lookup x = some v → match v with
      | .fn i => ∀ r : Row, B[i]? = some r → r.x = x
      | .bi => mg x = none
      | .mf id => mg x = some (.builtin id)
      | .cst d => ∃ v u, mg x = some u ∧ RelV v u ∧ ∀ H ι, RV K H ι d v
      | .exc _ => True) :
    ∀ (n i : Nat) (r : Row), B[i]? = some r → ∀ f fd, mg r.x = some (.ref f) → Fun K r.x r.x r.st f fd → FnOk P w K mg base (L2.CX P w) (n + 2) f fd r.ps (spEv (cfg K T (RX K T) B n) i)
  | 0, i, r, hr, f, fd, _, _ => by
    have no : ∀ vs H Q E, ¬ spEv (cfg K T (RX K T) B 0) i vs H Q E := fun vs H Q E h => by
      obtain ⟨_, _, _, _, _, h⟩ := h
      exact h.elim
    exact ⟨fun vs H Q E h => absurd h (no vs H Q E), fun A outer s H args us vs Q E _ _ _ _ h => absurd h (no vs H Q E)⟩
  | n + 1, i, r, hr, f, fd, hm, F => by
    have ih := fn_ok (P := P) (w := w) (base := base) (T := T) hB hfn hPX hZ n
    have ok := hB r (List.mem_of_getElem? hr)
    have sp_eq : ∀ {vs H Q E}, spEv (cfg K T (RX K T) B (n + 1)) i vs H Q E → ∃ ι ds s, RS K T H ι s ∧ RVs K H ι ds vs ∧ ds.length = r.ps.length ∧ tRe (cfg K T (RX K T) B n) E (finF (r.m (run B n) (startE r.N.length ds) s)) H ι Q := fun {vs H Q E} h => by
      obtain ⟨ι, ds, s, R, q, h⟩ := h
      have h' : tRe (cfg K T (RX K T) B n) E (runRow B[i]? (run B n) ds s) H ι Q := h
      rw [hr] at h'
      obtain ⟨h1, h2⟩ := tR.ite h'
      exact ⟨ι, ds, s, R, q, h1, h2⟩
    refine F.okX ok.sc (fun vs H Q E h => ?_) (fun cdv A outer s H vs Q E hroom h => ?_)
    · obtain ⟨ι, ds, st, _, q, hl, _⟩ := sp_eq h
      rw [← q.length, hl]
    · obtain ⟨ι, ds, st, R, q, hl, h2⟩ := sp_eq h
      refine ⟨_, ok.body (E := E) (n := n) (T := T) (K := K) (hPX _ rfl rfl rfl rfl rfl) ⟨rfl, rfl⟩ ⟨⟨rfl, rfl, ?_, takes_of rfl rfl rfl rfl, passes_of rfl⟩, rfl, ok.sc.nd, hroom, fun x h => h, fun x h => h, fun x h => .inl h, fun x h => h, fun x h => rfl, ok.sc.kind, fun x v hz => ?_⟩, ⟨ι, _, st, R, RE.start q, fin_ts h2⟩⟩
      · have := hroom.un
        show (A.deeper _).units + 200 < cLine
        omega
      · have z := hZ x v hz
        cases v with
        | fn j =>
          intro r' hr'
          have e := z r' hr'
          subst e
          obtain ⟨f', fd', k1, k2⟩ := hfn j r' hr'
          exact ⟨rfl, f', fd', k1, k2, ih j r' hr' f' fd' k1 k2⟩
        | bi => exact z
        | mf id => exact z
        | cst d => exact z
        | exc c => exact z
end
end EV

namespace EV
open L2 PySem PySem.Spec PyProof.Rows

section
variable {X : Cx} {B : List Row} {Z : List (Str × GV)} {g : Cfg} {E : XK} {n : Nat} {N : List Str} {ns : Ns} {x : Str} {p pos : Pos} {a b e : PySem.Expr} {es : List PySem.Expr} {ma mb : ME} {mr : MA}
abbrev scOf (ns : Ns) : Scope := { kind := .function, names := ns, isGenerator := false, isCoroutine := false }
theorem Ct.blkOk (C : Ct X B Z g E n N ns) {scope : Scope} {own : List (Str × Nat)} (h : blkC N (scOf ns) scope own = true) : BlkOk X.N X.env.scope scope own := by
  have k := blkOk_by h
  rw [C.eN]
  refine ⟨k.kind, k.uniq, k.ix, fun y hy e => ?_, k.own⟩
  rcases k.free y hy e with z | z
  · exact .inl (C.c _ z)
  · exact (C.f _ z).symm
/-- [elt for tg in iter if ..] -/
theorem lc_ (C : Ct X B Z g E n N ns) (own : List (Str × Nat)) {elt tg iter : PySem.Expr} {ifs : List PySem.Expr} {scope : Scope} {wi : MI} {m : MG} {t : MT} {el : ME} (hb : blkC N (scOf ns) scope own = true) (hi : PI X tg iter (ti g E wi))
    (h : ∀ {Y : Cx}, Ct Y B Z g E0 n N scope.names → PG Y tg (gs g E0 (own.map (·.2)) m) ∧ PTs Y ifs (tt g E0 t) ∧ PE Y elt (te g E0 el)) (hs : ∀ x, foldedSetIterable iter X.env x = pure x := by intro _; rfl) :
    PE X (.ListComp elt [⟨tg, iter, ifs, 0⟩] scope pos) (te g E (mLc wi m t el (own.map (·.2)))) :=
  have ok := C.blkOk hb
  e_lc C.at_ (by rw [C.eN]; exact C.nd) hi ok (fun _ _ _ _ _ => (h (C.in_ ok.kind)).1) (fun _ _ _ _ _ => (h (C.in_ ok.kind)).2.1) (fun _ _ _ _ _ => (h (C.in_ ok.kind)).2.2) hs
def swpB (scope : Scope) (t : Str) : Bool := !(scope.names.any fun (n, k) => n == t && (k == .local || k == .cell))
theorem Ct.swap (C : Ct X B Z g E n N ns) {elt : PySem.Expr} {cs : List PySem.Comprehension} {scope : Scope} {t : Str} {py spos : Pos} (hl : lclB ns t = true) (h1 : (py.line == pos.line) = true) (h2 : swpB scope t = true) : swapsWith (.ListComp elt cs scope pos) (some (.Name t py)) spos.line X.env = pure true := by
  have k1 : X.env.kindOf t = some .local := C.lcl hl
  have k2 : X.env.blockKind = .function := by unfold Env.blockKind; rw [C.kind]; rfl
  unfold swapsWith
  simp only [pure_bind, k1, k2, PySem.Expr.pos, h1, beq_self_eq_true, Bool.true_and]
  unfold swpB at h2
  rw [h2]
/-- name = [..] -/
theorem setLc_ (C : Ct X B Z g E n N ns) (i : Nat) (own : List (Str × Nat)) {y : Str} {py spos : Pos} {elt tg iter : PySem.Expr} {ifs : List PySem.Expr} {scope : Scope} {wi : MI} {m : MG} {t : MT} {el : ME} (hb : blkC N (scOf ns) scope own = true) (hy : nthB N i y = true) (hl : lclB ns y = true) (h1 : (py.line == pos.line) = true) (h2 : swpB scope y = true) (hi : PI X tg iter (ti g E wi))
    (h : ∀ {Y : Cx}, Ct Y B Z g E0 n N scope.names → PG Y tg (gs g E0 (own.map (·.2)) m) ∧ PTs Y ifs (tt g E0 t) ∧ PE Y elt (te g E0 el)) (hs : ∀ x, foldedSetIterable iter X.env x = pure x := by intro _; rfl) :
    PS X (.Assign [.Name y py] (.ListComp elt [⟨tg, iter, ifs, 0⟩] scope pos) spos) (ts g E (sAsg (mLc wi m t el (own.map (·.2))) (gNm i))) :=
  have ok := C.blkOk hb
  s_setLc C.at_ (by rw [C.eN]; exact C.nd) (C.nth hy) (C.lcl hl) (C.swap hl h1 h2) hi ok (fun _ _ _ _ _ => (h (C.in_ ok.kind)).1) (fun _ _ _ _ _ => (h (C.in_ ok.kind)).2.1) (fun _ _ _ _ _ => (h (C.in_ ok.kind)).2.2) hs
def tgB (N : List Str) (ns : Ns) (ws : List Nat) (i : Nat) (x : Str) : Bool := nthB N i x && locB ns x && ws.contains i
/-- a name as a target -/
theorem gn_ (C : Ct X B Z g E n N ns) (i : Nat) {ws : List Nat} (h : tgB N ns ws i x = true) : PG X (.Name x pos) (gs g E ws (gNm i)) := by
  unfold tgB at h
  simp only [Bool.and_eq_true] at h
  obtain ⟨⟨h1, h2⟩, h3⟩ := h
  exact g_name (by simpa using h3) (by rw [C.eN]; exact C.nd) (C.nth h1) (C.loc h2) (C.locf h2)

/-! ### isinstance -/
def tyN : Nat → String
  | 0 => "int" | 1 => "bool" | 2 => "str" | 3 => "tuple" | 4 => "list" | 5 => "dict" | _ => "NoneType"
def D.kd : D → Nat
  | .int _ => 0 | .bl _ => 1 | .str _ => 2 | .tup _ => 3 | .lst _ => 4 | .non => 6 | .dct _ => 7 | .ty _ => 7 | .exo _ => 7
def isK (k c : Nat) : Bool := k == c || (k == 1 && c == 0)
theorem kit_all : ∀ k < 7, ∀ c < 6, kitB (tyN k) (tyN c) = some (isK k c) := by decide +kernel
theorem tyX_of {K : PySem.W.Frag} {T : List Addr} {H : Hp} {ι : List Addr} {s : S} {d : D} {v : V} (R : RS K T H ι s) (h : RV K H ι d v) (hk : d.kd < 7) (hl : ∀ r, d = .lst r → (s.seq r).isSome = true) : TyX K H v (.type (tyN d.kd)) := by
  cases h with
  | non => exact .base .non
  | bl b => exact .base (.bl b)
  | int i => exact .base (.int i)
  | str x => exact .base (.str x)
  | tup h1 h2 =>
    rcases h1 with h1 | ⟨o, its, m, k1, k2, _⟩
    · rcases h1 with h1 | ⟨o, h1⟩
      · exact .base (.tup h1)
      · exact .fTuple h1
    · exact .kTuple k1 k2
  | @lst r a h1 =>
    obtain ⟨l, hs⟩ := Option.isSome_iff_exists.mp (hl r rfl)
    obtain ⟨xs, h2, _⟩ := R.seq h1 hs
    rcases h2 with h2 | ⟨o, its, m, k1, k2, _⟩
    · rcases h2 with h2 | ⟨o, h2⟩
      · exact .base (.lst h2)
      · exact .base (.frz h2)
    · exact .kList k1 k2
  | dct h1 => exact absurd hk (by show ¬ (7 < 7); omega)
  | ty m => exact absurd hk (by show ¬ (7 < 7); omega)
  | exo _ _ => exact absurd hk (by show ¬ (7 < 7); omega)
def okK (d : D) (s : S) : Bool := match d with
  | .lst r => (s.seq r).isSome
  | .dct _ => false
  | .ty _ => false
  | .exo _ => false
  | _ => true
theorem okK_of {d : D} {s : S} (h : okK d s = true) : d.kd < 7 ∧ ∀ r, d = .lst r → (s.seq r).isSome = true := by
  cases d with
  | lst r => exact ⟨(by show 4 < 7; omega), fun r' e => by cases e; exact h⟩
  | dct r => cases h
  | ty r => cases h
  | exo r => cases h
  | non => exact ⟨(by show 6 < 7; omega), fun r e => by cases e⟩
  | bl b => exact ⟨(by show 1 < 7; omega), fun r e => by cases e⟩
  | int b => exact ⟨(by show 0 < 7; omega), fun r e => by cases e⟩
  | str b => exact ⟨(by show 2 < 7; omega), fun r e => by cases e⟩
  | tup b => exact ⟨(by show 3 < 7; omega), fun r e => by cases e⟩
def dIsi (cs : List Nat) (d : D) (s : S) : R D := if okK d s = true then .ok (.bl (cs.any (isK d.kd))) s else .no
def mIsi (cs : List Nat) (a : ME) : ME := fun F e s => (a F e s).bind (dIsi cs)
def isiB (ns : Ns) (x : Str) (c : Nat) : Bool := glB' ns x && decide (c < 6) && decide (x = (tyN c : Str)) && decide (bootBuiltins x = some (.type (tyN c)))
theorem kitAny_of {K : PySem.W.Frag} {k : Nat} (hk : k < 7) : ∀ {cs : List Nat}, (∀ c ∈ cs, c < 6) → PySem.W.kitAny K (.type (tyN k)) (cs.map fun c => .type (tyN c)) = some (cs.any (isK k))
  | [], _ => rfl
  | c :: cs, h => by
    have h0 := kit_ty (K := K) (kit_all k hk c (h c List.mem_cons_self))
    have ih := kitAny_of (K := K) hk (cs := cs) fun c hc => h c (List.mem_cons_of_mem _ hc)
    rw [List.map_cons, List.any_cons]
    refine kitAny_cons h0 (fun e => ?_) (fun e => ?_)
    · rw [e, Bool.false_or]; exact ih
    · rw [e, Bool.true_or]
def biB (ns : Ns) (x : Str) (y : Str) : Bool := glB' ns x && decide (x = y)
/-- isinstance(a, T) -/
theorem isi1 (C : Ct X B Z g E n N ns) (c : Nat) {t : Str} {pt : Pos} (h1 : glB' ns "isinstance" = true) (z1 : Z.lookup ("isinstance" : Str) = some GV.bi) (h2 : glB' ns t = true) (hc : c < 6) (ht : bootBuiltins t = some (.type (tyN c))) (z2 : Z.lookup t = some .bi) (ha : PE X a (te g E ma))
    (he : starEach [a, .Name t pt] X.env = (false, eval a X.env) :: starEach [.Name t pt] X.env := by rfl) :
    PE X (.Call (.Name "isinstance" p) [a, .Name t pt] [] pos) (te g E (mIsi [c] ma)) := by
  obtain ⟨k1, k2, k3⟩ := glB_of h1
  obtain ⟨q1, q2, q3⟩ := glB_of h2
  refine PE.imp (pe_callB call_isi (C.glob k1) (C.nm _ _ z1) boot_isinstance (pa_cons ha (pa_cons (pe_bltn (v := .ty (tyN c)) (C.glob q1) (C.nm _ _ z2) ht rfl q3 q2) pa_nil) he) k3 k2 he (by rfl)) fun σ H Q ⟨ι, e, s, R, q, h⟩ => ⟨ι, e, s, R, q, tR.bind h fun d s1 v H1 ι1 _ f1 R1 r1 h1 => ?_⟩
  unfold dIsi at h1
  obtain ⟨w1, w2⟩ := tR.ite h1
  obtain ⟨w3, w4⟩ := okK_of w1
  have ty := tyX_of R1 r1 w3 w4
  refine ⟨v, .ty (tyN c), .type (tyN d.kd), .type (tyN c), isK d.kd c, rfl, .ty _, by rw [C.at_.K]; exact ty, kit_ty (kit_all _ w3 c hc), ?_⟩
  have := tR.of w2 R1 (.bl _)
  simpa using this
/-- isinstance(a, (T, U)) -/
theorem isi2 (C : Ct X B Z g E n N ns) (c d : Nat) {t u : Str} {pt pu pT : Pos} {kT : Nat} (h1 : glB' ns "isinstance" = true) (z1 : Z.lookup ("isinstance" : Str) = some GV.bi) (h2 : glB' ns t = true) (hc : c < 6) (ht : bootBuiltins t = some (.type (tyN c))) (z2 : Z.lookup t = some .bi)
    (h3 : glB' ns u = true) (hd : d < 6) (hu : bootBuiltins u = some (.type (tyN d))) (z3 : Z.lookup u = some .bi) (ha : PE X a (te g E ma))
    (he : starEach [a, .Tuple [.Name t pt, .Name u pu] kT pT] X.env = (false, eval a X.env) :: starEach [.Tuple [.Name t pt, .Name u pu] kT pT] X.env := by rfl) :
    PE X (.Call (.Name "isinstance" p) [a, .Tuple [.Name t pt, .Name u pu] kT pT] [] pos) (te g E (mIsi [c, d] ma)) := by
  obtain ⟨k1, k2, k3⟩ := glB_of h1
  obtain ⟨q1, q2, q3⟩ := glB_of h2
  obtain ⟨o1, o2, o3⟩ := glB_of h3
  refine PE.imp (pe_callB call_isiT (C.glob k1) (C.nm _ _ z1) boot_isinstance (pa_cons ha (pa_cons (pe_tup (pa_cons (pe_bltn (v := .ty (tyN c)) (C.glob q1) (C.nm _ _ z2) ht rfl q3 q2) (pa_cons (pe_bltn (v := .ty (tyN d)) (C.glob o1) (C.nm _ _ z3) hu rfl o3 o2) pa_nil))) pa_nil) he) k3 k2 he (by rfl))
    fun σ H Q ⟨ι, e, s, R, q, h⟩ => ⟨ι, e, s, R, q, tR.bind h fun dd s1 v H1 ι1 _ f1 R1 r1 h1 => ?_⟩
  unfold dIsi at h1
  obtain ⟨w1, w2⟩ := tR.ite h1
  obtain ⟨w3, w4⟩ := okK_of w1
  have ty := tyX_of R1 r1 w3 w4
  refine ⟨(by show 2 ≤ sizeLine; decide), fun tp hp => ?_⟩
  have ty' := tyX_of (R1.new (o := .tup [.ty (tyN c), .ty (tyN d)]) hp) (r1.fw (Fw.new hp)) w3 w4
  exact ⟨v, tp, _, .type (tyN dd.kd), [.type (tyN c), .type (tyN d)], [c, d].any (isK dd.kd), rfl, upd_same, .cons (.ty _) (.cons (.ty _) .nil), by rw [C.at_.K]; exact ty', kitAny_of w3 (cs := [c, d]) (by simp [hc, hd]), w2 _ _ _ (Fw.new hp) (R1.new hp) (.bl _)⟩

/-! ### all, any of a list -/
theorem c_all (A : At X g E) : CallR X (.builtin "all") (rc g E bAll) := by
  intro pins s σ H xs us Q I r ⟨ι, ds, st, R, rv, q⟩
  unfold bAll at q
  split at q
  · cases rv with
    | cons r1 r2 =>
      cases r2
      obtain ⟨a, bs, rfl, h1, h2⟩ := bs_ok R r1 q
      exact cr_all A.calm pins s σ H _ us Q I r ⟨a, bs, rfl, by rw [A.K]; exact h1, h2⟩
  · exact q.elim
theorem c_any (A : At X g E) : CallR X (.builtin "any") (rc g E bAny) := by
  intro pins s σ H xs us Q I r ⟨ι, ds, st, R, rv, q⟩
  unfold bAny at q
  split at q
  · cases rv with
    | cons r1 r2 =>
      cases r2
      obtain ⟨a, bs, rfl, h1, h2⟩ := bs_ok R r1 q
      exact cr_any A.calm pins s σ H _ us Q I r ⟨a, bs, rfl, by rw [A.K]; exact h1, h2⟩
  · exact q.elim
/-- a built-in function by its name -/
theorem bi_ (C : Ct X B Z g E n N ns) {id : String} {f : List D → S → R D} (hc : CallR X (.builtin id) (rc g E f)) (hz : Z.lookup x = some .bi) (h : glB' ns x = true) (hv : bootBuiltins x = some (.builtin id)) (ha : PA X (e :: es) (ta g E mr))
    (he : starEach (e :: es) X.env = (false, eval e X.env) :: starEach es X.env := by rfl) (hpl : (backTo pos (starEach es X.env)).any (·.1) = false := by rfl) : PE X (.Call (.Name x p) (e :: es) [] pos) (te g E (mCall f mr)) := by
  obtain ⟨k1, k2, k3⟩ := glB_of h
  exact e_callB hc (C.glob k1) (C.nm _ _ hz) hv ha k3 k2 he hpl
theorem ty_ (C : Ct X B Z g E n N ns) {T : String} {f : List D → S → R D} (hc : CallR X (.type T) (rc g E f)) (hz : Z.lookup x = some .bi) (h : glB' ns x = true) (hv : bootBuiltins x = some (.type T)) (ha : PA X (e :: es) (ta g E mr))
    (he : starEach (e :: es) X.env = (false, eval e X.env) :: starEach es X.env := by rfl) (hpl : (backTo pos (starEach es X.env)).any (·.1) = false := by rfl) : PE X (.Call (.Name x p) (e :: es) [] pos) (te g E (mCall f mr)) := by
  obtain ⟨k1, k2, k3⟩ := glB_of h
  exact e_callTy hc (C.glob k1) (C.nm _ _ hz) hv ha k3 k2 he hpl
/-- a function of a module -/
theorem mf_ (C : Ct X B Z g E n N ns) {id : String} {f : List D → S → R D} (hc : CallR X (.builtin id) (rc g E f)) (hz : Z.lookup x = some (.mf id)) (h : glB' ns x = true) (ha : PA X (e :: es) (ta g E mr))
    (he : starEach (e :: es) X.env = (false, eval e X.env) :: starEach es X.env := by rfl) (hpl : (backTo pos (starEach es X.env)).any (·.1) = false := by rfl) : PE X (.Call (.Name x p) (e :: es) [] pos) (te g E (mCall f mr)) := by
  obtain ⟨k1, k2, k3⟩ := glB_of h
  exact PE.imp (pe_callBfun hc (C.glob k1) (C.nm _ _ hz) ha k2 he hpl) fun σ H Q ⟨ι, e, s, R, q, h⟩ => ⟨ι, e, s, R, q, tR.bind h fun ds s1 vs H1 ι1 _ f1 R1 r1 h1 => ⟨ι1, ds, s1, R1, r1, h1⟩⟩
def bGcd : List D → S → R D
  | [.int i, .int j], s => .ok (.int ((Nat.gcd i.natAbs j.natAbs : Nat) : Int)) s
  | _, _ => .no
theorem c_gcd : CallR X (.builtin "math.gcd") (rc g E bGcd) := by
  intro pins s σ H xs us Q I r ⟨ι, ds, st, R, rv, q⟩
  unfold bGcd at q
  split at q
  · cases rv with
    | cons r1 r2 =>
      cases r2 with
      | cons r2 r3 =>
        cases r3
        cases r1
        cases r2
        exact cr_gcd pins s σ H _ us Q I r ⟨_, _, rfl, tR.of q R (.int _)⟩
  · exact q.elim
end
end EV

namespace EV
open L2 PySem PySem.Spec PyProof.Rows

section
variable {X : Cx} {B : List Row} {Z : List (Str × GV)} {g : Cfg} {E : XK} {n : Nat} {N : List Str} {ns : Ns} {x y : Str} {p pos px py pt pt2 : Pos} {a b e : PySem.Expr} {es : List PySem.Expr} {ma mb : ME} {mr : MA} {kt k2 : Nat}
theorem Ct.bk (C : Ct X B Z g E n N ns) : X.env.blockKind = .function := by unfold Env.blockKind; rw [C.kind]; rfl
def star1 (es : List PySem.Expr) : Bool := es.any fun | .Starred .. => true | _ => false
/-- a, b = x, y: from the right -/
theorem swp2 (C : Ct X B Z g E n N ns) (hx : lclB ns x = true) (hy : lclB ns y = true) (hl : (py.line == px.line) = true) (hne : (x == y) = false) (hc : ([a, b].all (foldedForSure 8) || [a, b].all (constantsAlone 8) || star1 [a, b]) = false) :
    swappedStores [.Tuple [.Name x px, .Name y py] kt pt] (.Tuple [a, b] k2 pt2) X.env = pure (some [x, y]) := by
  have k1 : X.env.kindOf x = some .local := C.lcl hx
  have k2 : X.env.kindOf y = some .local := C.lcl hy
  simp only [Bool.or_eq_false_iff] at hc
  obtain ⟨⟨h1, h2⟩, h3⟩ := hc
  have hne' : (y == x) = false := by
    rw [← hne]
    exact Bool.eq_iff_iff.mpr ⟨fun h => by rw [beq_iff_eq.mp h]; simp, fun h => by rw [beq_iff_eq.mp h]; simp⟩
  unfold swappedStores
  simp only [pure_bind, C.bk, List.length_cons, List.length_nil, List.head?_cons, Option.map_some, Option.getD_some, PySem.Expr.pos, List.filterMap_cons, List.filterMap_nil, k1, k2, beq_self_eq_true, Bool.true_and, hl, if_true]
  have d2 : [x, y].eraseDups = [x, y] := by simp [List.eraseDups_cons, hne']
  rw [d2, if_neg (by decide), if_neg (fun z => by have z' : star1 [a, b] = true := z; rw [h3] at z'; cases z'), if_neg (show ¬ (0 + 1 + 1 != 0 + 1 + 1 || [x, y].length != 0 + 1 + 1) = true from by simp), if_neg (by rw [h1]; decide), if_neg (by rw [h2]; decide)]
def sPar2 (i j : Nat) (a : MA) : MS := fun F e s => (a F e s).bind fun ds s1 => match ds with
  | [x, y] => .ok (.nx ((e.set i (some x)).set j (some y))) s1
  | _ => .no
theorem par2_ (C : Ct X B Z g E n N ns) (i j : Nat) (hi : nthB N i x = true) (hj : nthB N j y = true) (hx : lclB ns x = true) (hy : lclB ns y = true) (hl : (py.line == px.line) = true) (hne : (x == y) = false)
    (hc : ([a, b].all (foldedForSure 8) || [a, b].all (constantsAlone 8) || star1 [a, b]) = false) (ha : PA X [a, b] (ta g E mr)) : PS X (.Assign [.Tuple [.Name x px, .Name y py] kt pt] (.Tuple [a, b] k2 pt2) pos) (ts g E (sPar2 i j mr)) := by
  have hij : i ≠ j := fun z => by
    have h1 := C.nth hi
    have h2 := C.nth hj
    rw [z, h2] at h1
    cases h1
    simp at hne
  refine PS.imp (ps_par C.at_.calm (by rw [C.eN]; exact C.nd) (C.nth hi) (C.nth hj) hij (C.lcl hx) (C.lcl hy) ha (swp2 C hx hy hl hne hc)) fun D σ H ⟨ι, e, s, R, q, h⟩ => ⟨ι, e, s, R, q, tRs.bind h fun ds s1 vs H1 ι1 _ f1 R1 r1 h1 => ?_⟩
  split at h1
  · cases r1 with
    | cons r1 r2 =>
      cases r2 with
      | cons r2 r3 =>
        cases r3
        exact ⟨_, _, rfl, h1 _ H1 ι1 Fw.refl R1 (((q.fw f1).set r1 i).set r2 j)⟩
  · exact h1.elim
theorem swp_const {ts : List PySem.Expr} {vs : List PySem.Expr} {env : Env} (h : vs.all (foldedForSure 8) = true) : swappedStores [.Tuple ts kt pt] (.Tuple vs k2 pt2) env = pure none := by
  unfold swappedStores
  simp only [pure_bind]
  repeat' split
  all_goals first | rfl | skip
  all_goals (rename_i h1; first | exact absurd h h1 | skip)
def celB (ns : Ns) (x : Str) : Bool := match ns.lookup x with
  | some .cell => true
  | _ => false
theorem Ct.cel (C : Ct X B Z g E n N ns) (h : celB ns x = true) : (X.env.kindOf x == some NameKind.local) = false := by
  unfold celB at h
  split at h
  · have z : X.env.kindOf x = some .cell := C.c _ (by assumption)
    rw [z]; rfl
  · cases h
/-- a captured name among the targets: from the left -/
theorem swp_cell2 (C : Ct X B Z g E n N ns) (h : (celB ns x || celB ns y) = true) : swappedStores [.Tuple [.Name x px, .Name y py] kt pt] (.Tuple [a, b] k2 pt2) X.env = pure none := by
  rcases Bool.or_eq_true_iff.mp h with h | h
  · unfold swappedStores
    simp only [pure_bind, List.filterMap_cons, List.filterMap_nil, C.cel h, Bool.false_and, Bool.false_eq_true, if_false]
    by_cases hq : (X.env.kindOf y == some NameKind.local && py.line == (Option.map (fun z => z.pos.line) [PySem.Expr.Name x px, PySem.Expr.Name y py].head?).getD 0) = true
    · simp only [hq, if_true]
      repeat' split
      all_goals first | rfl | (exfalso; simp_all)
    · simp only [hq]
      repeat' split
      all_goals first | rfl | (exfalso; simp_all)
  · unfold swappedStores
    simp only [pure_bind, List.filterMap_cons, List.filterMap_nil, C.cel h, Bool.false_and, Bool.false_eq_true, if_false]
    by_cases hq : (X.env.kindOf x == some NameKind.local && px.line == (Option.map (fun z => z.pos.line) [PySem.Expr.Name x px, PySem.Expr.Name y py].head?).getD 0) = true
    · simp only [hq, if_true]
      repeat' split
      all_goals first | rfl | (exfalso; simp_all)
    · simp only [hq]
      repeat' split
      all_goals first | rfl | (exfalso; simp_all)
end
end EV

namespace EV
open L2 PySem PySem.Spec PyProof.Rows

section
variable {X : Cx} {B : List EV.Row} {Z : List (Str × GV)} {g : Cfg} {E : XK} {n : Nat} {N : List Str} {ns : Ns} {x y : Str} {p pos px py pt pt2 apos cpos : Pos} {a b c e o i : PySem.Expr} {es : List PySem.Expr} {ma mb mc : ME} {mr : MA} {kt k2 : Nat}
/-! ### chains -/
def asB2 {α : Type} (d : D) (s : S) (f : Bool → R α) : R α := match d with
  | .bl k => f k
  | _ => .no
def mChain (f f' : D → D → S → R D) (a b c : ME) : ME := fun F e s => (a F e s).bind fun x s1 => (b F e s1).bind fun y s2 => (f x y s2).bind fun z s3 => asB2 z s3 fun k => if k then (c F e s3).bind fun w s4 => f' y w s4 else .ok (.bl false) s3
theorem chain_sound {r : D → D → S → R D} {f' : D → D → S → R D} {σ : L2.St} {H : Hp} {Q : VK} (h : te g E (mChain r f' ma mb mc) σ H Q) : tChain (ro g E r) (ro g E f') (te g E ma) (te g E mb) (te g E mc) σ H Q := by
  obtain ⟨ι, e, s, R, q, h⟩ := h
  refine ⟨ι, e, s, R, q, tR.bind h fun d s1 v H1 ι1 _ f1 R1 r1 h1 => ⟨ι1, e, s1, R1, q.fw f1, tR.bind h1 fun d2 s2 v2 H2 ι2 _ f2 R2 r2 h2 => ⟨ι2, d, d2, s2, R2, r1.fw f2, r2, tR.bind h2 fun d3 s3 v3 H3 ι3 _ f3 R3 r3 h3 => ?_⟩⟩⟩
  unfold asB2 at h3
  cases r3 with
  | bl k =>
    refine ⟨k, rfl, ?_⟩
    cases k with
    | true =>
      simp only [if_true] at h3 ⊢
      exact ⟨ι3, e, s3, R3, ((q.fw f1).fw f2).fw f3, tR.bind h3 fun d4 s4 v4 H4 ι4 _ f4 R4 r4 h4 => ⟨ι4, d2, d4, s4, R4, (r2.fw f3).fw f4, r4, h4⟩⟩
    | false => exact tR.of h3 R3 (.bl _)
  | _ => exact h3.elim
theorem e_chain {op op' : PySem.CmpOp} {f f' : D → D → S → R D} (ho : OpR X (compareOp op) (ro g E f)) (ho' : OpR X (compareOp op') (ro g E f')) (ha : PE X a (te g E ma)) (hb : PE X b (te g E mb)) (hc : PE X c (te g E mc)) (hm : lastMarks [op, op'] [b, c] = false) :
    PE X (.Compare a [op, op'] [b, c] pos) (te g E (mChain f f' ma mb mc)) := PE.imp (pe_chain ho ho' ha hb hc hm) fun _ _ _ h => chain_sound h
theorem t_chain {op op' : PySem.CmpOp} {f f' : D → D → S → R D} (ho : OpR X (compareOp op) (ro g E f)) (ho' : OpR X (compareOp op') (ro g E f')) (ha : PE X a (te g E ma)) (hb : PE X b (te g E mb)) (hc : PE X c (te g E mc)) (hm : lastMarks [op, op'] [b, c] = false) :
    PT X (.Compare a [op, op'] [b, c] pos) (tt g E (tBl (mChain f f' ma mb mc))) := PT.imp (pt_chain ho ho' ha hb hc hm) fun σ H Q ⟨ι, e, s, R, q, h⟩ => chain_sound ⟨ι, e, s, R, q, by
      have h' : tRt g E ((mChain f f' ma mb mc g.F e s).bind asB) H ι Q := h
      exact tR.bind h' fun d s1 v H1 ι1 _ f1 R1 r1 h1 => asB_ok R1 r1 h1⟩
/-! ### methods of lists -/
def own1 {α : Type} (d : D) (s : S) (f : Nat → List D → R α) : R α := match d with
  | .lst r => match s.own r with
    | some l => f r l
    | none => .no
  | _ => .no
theorem own1_ok {α β : Type} {Rl : Hp → List Addr → α → β → Prop} {d : D} {s : S} {f : Nat → List D → R α} {H : Hp} {ι : List Addr} {Q : β → Hp → Prop} {v : V} (R : RS g.K g.T H ι s) (h : RV g.K H ι d v) (q : tR g E Rl (own1 d s f) H ι Q) :
    ∃ r a l xs, v = .ref a ∧ ι[r]? = some a ∧ s.own r = some l ∧ H a = some (.lst xs) ∧ RVs g.K H ι l xs ∧ tR g E Rl (f r l) H ι Q := by
  unfold own1 at q
  cases h with
  | @lst r a h1 =>
    simp only at q
    cases hs : s.own r with
    | none => rw [hs] at q; exact q.elim
    | some l =>
      rw [hs] at q
      obtain ⟨xs, k1, k2⟩ := R.own h1 hs
      exact ⟨r, a, l, xs, rfl, h1, hs, k1, k2, q⟩
  | _ => exact q.elim
theorem put_ok {r : Nat} {a : Addr} {l l' : List D} {ys : List V} {s : S} {H : Hp} {ι : List Addr} (R : RS g.K g.T H ι s) (hi : ι[r]? = some a) (ho : s.own r = some l) (hr : RVs g.K H ι l' ys) :
    Fw g.K H ι (upd H a (.lst ys)) ι ∧ RS g.K g.T (upd H a (.lst ys)) ι (s.put r (.lst l')) := by
  have hg := S.own_get ho
  have f := Fw.put (o := .lst ys) R hg (fun _ z => by cases z) hi
  exact ⟨f, R.write hg (fun _ z => by cases z) hi ⟨ys, upd_same, hr.fw f⟩⟩
def isL (d : D) (s : S) : Bool := match d with
  | .lst r => (s.seq r).isSome
  | _ => false
def mMt (f : D → List D → S → R D) (o : ME) (a : MA) : ME := fun F e s => (o F e s).bind fun x s1 => if isL x s1 = true then (a F e s1).bind fun ys s2 => f x ys s2 else .no
def MtS (g : Cfg) (E : XK) (r : V → List V → Hp → VK → Prop) (f : D → List D → S → R D) : Prop := ∀ {dx : D} {ds : List D} {x : V} {vs : List V} {H : Hp} {ι : List Addr} {s : S} {Q : VK}, RS g.K g.T H ι s → RV g.K H ι dx x → RVs g.K H ι ds vs → tRe g E (f dx ds s) H ι Q → r x vs H Q
/-- o.m(a, ..), o a list -/
theorem e_mt (A : At X g E) {name : Str} {id : String} {r : V → List V → Hp → VK → Prop} {f : D → List D → S → R D} (slot : Slot "list" name id) (ty : typeOf (.builtin id) = pure (.type "method_descriptor")) (hm : MtM X id r) (hf : MtS g E r f) (ho : PE X o (te g E ma)) (ha : PA X (e :: es) (ta g E mr))
    (hbase : attributeBase o name X.env (eval o X.env) = eval o X.env := by rfl)
    (hfew : ((backTo cpos (starEach (e :: es) X.env)).all (fun x => !x.1) && (backToKw cpos (keywordEach [] X.env)).all (fun x => x.1.isSome)
      && decide ((e :: es).length + ([] : List PySem.Keyword).length + (if ([] : List PySem.Keyword).isEmpty then 0 else 1) < 30)) = true := by rfl)
    (hline : (apos.endLine == cpos.line) = true := by rfl) (hs : starEach (e :: es) X.env = (false, eval e X.env) :: starEach es X.env := by rfl) (hplain : (backTo cpos (starEach es X.env)).any (·.1) = false := by rfl) :
    PE X (.Call (.Attribute o name apos) (e :: es) [] cpos) (te g E (mMt f ma mr)) :=
  PE.imp (pe_bm PySem.F.plainAttrs_list slot ty hm ho ha hbase hfew hline hs hplain) fun σ H Q ⟨ι, en, s, R, q, h⟩ => ⟨ι, en, s, R, q, tR.bind h fun d s1 v H1 ι1 _ f1 R1 r1 h1 => by
    obtain ⟨h2, h3⟩ := tR.ite h1
    unfold isL at h2
    cases r1 with
    | @lst r a k =>
      obtain ⟨l, hs⟩ := Option.isSome_iff_exists.mp h2
      obtain ⟨xs, k1, k2⟩ := R1.seq k hs
      refine ⟨.inl ⟨rfl, xs, by rw [A.K]; exact k1⟩, ι1, en, s1, R1, q.fw f1, tR.bind h3 fun ds s2 vs H2 ι2 _ f2 R2 r2 h4 => hf R2 (.lst (f2.at k)) r2 h4⟩
    | _ => cases h2⟩
def fApp (x : D) (ys : List D) (s : S) : R D := match ys with
  | [y] => own1 x s fun r l => if l.length < 100000 then .ok .non (s.put r (.lst (l ++ [y]))) else .no
  | _ => .no
theorem app_s : MtS g E rAppend fApp := by
  intro dx ds x vs H ι s Q R rx rv h
  unfold fApp at h
  split at h
  · cases rv with
    | cons r1 r2 =>
      cases r2
      obtain ⟨r, a, l, xs, rfl, hi, ho, hH, hr, h2⟩ := own1_ok R rx h
      obtain ⟨hl, h3⟩ := tR.ite h2
      obtain ⟨k1, k2⟩ := put_ok R hi ho (hr.append (.cons r1 .nil))
      exact ⟨a, xs, _, rfl, rfl, hH, by rw [← hr.length]; exact Nat.lt_of_lt_of_le hl (by decide), h3 _ _ _ k1 k2 .non⟩
  · exact h.elim
def fExt (x : D) (ys : List D) (s : S) : R D := match ys with
  | [y] => own1 x s fun r l => own1 y s fun q m => if l.length + m.length ≤ 100000 then .ok .non (s.put r (.lst (l ++ m))) else .no
  | _ => .no
theorem ext_s : MtS g E rExtend fExt := by
  intro dx ds x vs H ι s Q R rx rv h
  unfold fExt at h
  split at h
  · cases rv with
    | cons r1 r2 =>
      cases r2
      obtain ⟨r, a, l, xs, rfl, hi, ho, hH, hr, h2⟩ := own1_ok R rx h
      obtain ⟨r', a', l', xs', rfl, hi', ho', hH', hr', h3⟩ := own1_ok R r1 h2
      obtain ⟨hl, h4⟩ := tR.ite h3
      obtain ⟨k1, k2⟩ := put_ok R hi ho (hr.append hr')
      exact ⟨a, a', xs, xs', rfl, rfl, hH, hH', by rw [← hr.length, ← hr'.length]; exact le_line hl, h4 _ _ _ k1 k2 .non⟩
  · exact h.elim
def fPopAt (x : D) (ys : List D) (s : S) : R D := match ys with
  | [.int i] => own1 x s fun r l => if 0 ≤ i ∧ i < l.length ∧ l.length < 100000 then (match l[i.toNat]? with
    | some d => .ok d (s.put r (.lst (l.eraseIdx i.toNat)))
    | none => .no) else .no
  | _ => .no
theorem RVs.erase {K : PySem.W.Frag} {H : Hp} {ι : List Addr} : ∀ {ds : List D} {vs : List V} (i : Nat), RVs K H ι ds vs → RVs K H ι (ds.eraseIdx i) (vs.eraseIdx i)
  | _, _, _, .nil => .nil
  | _, _, 0, .cons _ t => t
  | _, _, i + 1, .cons r t => .cons r (RVs.erase i t)
theorem popAt_s : MtS g E rPopAt fPopAt := by
  intro dx ds x vs H ι s Q R rx rv h
  unfold fPopAt at h
  split at h
  · rename_i i0
    cases rv with
    | cons r1 r2 =>
      cases r2
      cases r1
      obtain ⟨r, a, l, xs, rfl, hi, ho, hH, hr, h2⟩ := own1_ok R rx h
      obtain ⟨⟨c1, c2, c3⟩, h3⟩ := tR.ite h2
      split at h3
      · rename_i d hd
        obtain ⟨v, k3, k4⟩ := hr.get hd
        obtain ⟨k1, k2⟩ := put_ok R hi ho (hr.erase _)
        have hl := hr.length
        refine ⟨a, xs, _, _, v, rfl, rfl, hH, by omega, by omega, ?_, k3, h3 _ _ _ k1 k2 (k4.fw k1)⟩
        have e0 : ¬ i0 < 0 := by omega
        have e1 : (0 ≤ i0 && i0 < (xs.length : Int)) = true := by
          simp only [Bool.and_eq_true, decide_eq_true_eq]
          omega
        unfold seqIndex?
        simp only [if_neg e0]
        rw [if_pos e1]
      · exact h3.elim
  · exact h.elim
/-! ### o[i] = v, o[i] op= v, for lists -/
def atN (n : Nat) (d : D) : Option Nat := match d with
  | .int i => ixN n i
  | _ => none
def stL (x y d : D) (s : S) : R Unit := own1 x s fun r l => match atN l.length y with
  | some j => .ok () (s.put r (.lst (l.set j d)))
  | none => .no
def rst (g : Cfg) (E : XK) : TSet := fun x y v H Q => ∃ ι dx dy d s, RS g.K g.T H ι s ∧ RV g.K H ι dx x ∧ RV g.K H ι dy y ∧ RV g.K H ι d v ∧ tR g E (fun _ _ _ _ => True) (stL dx dy d s) H ι (fun (_ : Unit) H' => Q H')
theorem set_all : PSet X (rst g E) := by
  intro pins s σ H o i v ov iv u Q I ro ri rv ⟨ι, dx, dy, d, st, R, rx, ry, rd, h⟩
  obtain ⟨r, a, l, xs, rfl, hi, ho, hH, hr, h2⟩ := own1_ok R rx h
  cases ry with
  | int k =>
    unfold atN at h2
    simp only at h2
    cases hj : ixN l.length k with
    | none => rw [hj] at h2; exact h2.elim
    | some j =>
      rw [hj] at h2
      obtain ⟨k1, k2⟩ := put_ok R hi ho (RVs.set rd j hr)
      exact set_list pins s σ H _ _ _ ov iv u Q I ro ri rv ⟨a, xs, k, j, rfl, rfl, hH, by rw [← hr.length]; exact hj, h2 () _ _ k1 k2 trivial⟩
  | _ => exact h2.elim
def gSubM (o i : ME) : MG := fun F e d s => (o F e s).bind fun x s1 => (i F e s1).bind fun y s2 => (stL x y d s2).bind fun _ s3 => .ok e s3
theorem g_sub {ws : List Nat} (ho : PE X o (te g E ma)) (hi : PE X i (te g E mb))
    (ha : ∀ v, assign (.Subscript o i pos) X.env v = (do
      let ov ← holding [v] (eval o X.env)
      let iv ← holding [v, ov] (eval i X.env)
      standAt pos
      holding [v, ov, iv] (setItem ov iv v)
      release [v, ov, iv] []) := by intro _; rfl) : PG X (.Subscript o i pos) (gs g E ws (gSubM ma mb)) :=
  PG.imp (pg_sub ho hi set_all ha) fun v σ H Q ⟨ι, e, s, d, R, q, r, h⟩ => ⟨ι, e, s, R, q, tR.bind h fun d1 s1 v1 H1 ι1 _ f1 R1 r1 h1 => ⟨ι1, e, s1, R1, q.fw f1, tR.bind h1 fun d2 s2 v2 H2 ι2 _ f2 R2 r2 h2 =>
    ⟨ι2, d1, d2, d, s2, R2, r1.fw f2, r2, (r.fw f1).fw f2, tR.bind h2 fun _ s3 _ H3 ι3 _ f3 R3 _ h3 => h3 σ H3 ι3 Fw.refl R3 ⟨((q.fw f1).fw f2).fw f3, rfl⟩⟩⟩⟩
/-! ### list(range(..)) -/
def lrg (i j : Int) (s : S) : R D := if 0 ≤ i ∧ i ≤ 1000 ∧ 0 ≤ j ∧ j ≤ 1000 then newL ((List.range (j - i).toNat).map fun k => .int (i + (k : Nat))) s else .no
theorem rg_rv {K : PySem.W.Frag} {H : Hp} {ι : List Addr} {i : Int} : ∀ l : List Nat, RVs K H ι (l.map fun k => D.int (i + (k : Nat))) (l.map fun k => V.int (i + (k : Nat)))
  | [] => .nil
  | k :: l => .cons (.int _) (rg_rv l)
def rg1F (d : D) (s : S) : R D := match d with
  | .int j => lrg 0 j s
  | _ => .no
def rg2F (c d : D) (s : S) : R D := match c, d with
  | .int i, .int j => lrg i j s
  | _, _ => .no
theorem lrg_ok {i j : Int} {s : S} {H : Hp} {ι : List Addr} {Q : VK} (R : RS g.K g.T H ι s) (h : tRe g E (lrg i j s) H ι Q) : RgOk i j ∧ ∀ q, H q = none → Q (.ref q) (upd H q (.lst (rgV i j))) := by
  obtain ⟨⟨h1, h2, h3, h4⟩, h5⟩ := tR.ite h
  exact ⟨RgOk.of_le h1 (by omega) (by omega) h3, newL_ok R (rg_rv _) h5⟩
theorem e_lrg1 (C : Ct X B Z g E n N ns) (h1 : glB' ns "list" = true) (z1 : Z.lookup ("list" : Str) = some GV.bi) (h2 : glB' ns "range" = true) (z2 : Z.lookup ("range" : Str) = some GV.bi) (ha : PE X a (te g E ma)) (na : starEach [a] X.env = (false, eval a X.env) :: starEach [] X.env := by rfl)
    (nb : starEach [.Call (.Name "range" pt) [a] [] pt2] X.env = (false, eval (.Call (.Name "range" pt) [a] [] pt2) X.env) :: starEach [] X.env := by rfl) : PE X (.Call (.Name "list" p) [.Call (.Name "range" pt) [a] [] pt2] [] pos) (te g E (mUn rg1F ma)) :=
  PE.imp (pe_listRg C.at_.calm (C.glob (glB_of h1).1) (C.nm _ _ z1) (prg_1 (C.glob (glB_of h2).1) (C.nm _ _ z2) ha na) nb) fun σ H Q ⟨ι, e, s, R, q, h⟩ => ⟨ι, e, s, R, q, tR.bind h fun d s1 v H1 ι1 _ f1 R1 r1 h1 => by
    cases r1 with
    | int j => exact ⟨j, rfl, lrg_ok R1 h1⟩
    | _ => exact h1.elim⟩
theorem e_lrg2 (C : Ct X B Z g E n N ns) (h1 : glB' ns "list" = true) (z1 : Z.lookup ("list" : Str) = some GV.bi) (h2 : glB' ns "range" = true) (z2 : Z.lookup ("range" : Str) = some GV.bi) (ha : PE X a (te g E ma)) (hb : PE X b (te g E mb)) (na : starEach [a, b] X.env = (false, eval a X.env) :: starEach [b] X.env := by rfl) (na2 : starEach [b] X.env = (false, eval b X.env) :: starEach [] X.env := by rfl)
    (nb : starEach [.Call (.Name "range" pt) [a, b] [] pt2] X.env = (false, eval (.Call (.Name "range" pt) [a, b] [] pt2) X.env) :: starEach [] X.env := by rfl) : PE X (.Call (.Name "list" p) [.Call (.Name "range" pt) [a, b] [] pt2] [] pos) (te g E (mOp rg2F ma mb)) :=
  PE.imp (pe_listRg C.at_.calm (C.glob (glB_of h1).1) (C.nm _ _ z1) (prg_2 (C.glob (glB_of h2).1) (C.nm _ _ z2) ha hb na na2 (by rw [na2]; rfl)) nb) fun σ H Q ⟨ι, e, s, R, q, h⟩ => ⟨ι, e, s, R, q, tR.bind h fun d s1 v H1 ι1 _ f1 R1 r1 h1 => ⟨ι1, e, s1, R1, q.fw f1, tR.bind h1 fun d2 s2 v2 H2 ι2 _ f2 R2 r2 h2 => by
    cases r1 with
    | int i =>
      cases r2 with
      | int j => exact ⟨i, j, rfl, rfl, lrg_ok R2 h2⟩
      | _ => exact h2.elim
    | _ => cases r2 <;> exact h2.elim⟩⟩
/-! ### max, min of two ints -/
def bMax2 : List D → S → R D
  | [.int i, .int j], s => .ok (.int (if j > i then j else i)) s
  | _, _ => .no
def bMin2 : List D → S → R D
  | [.int i, .int j], s => .ok (.int (if j < i then j else i)) s
  | _, _ => .no
theorem c_max2 (A : At X g E) : CallR X (.builtin "max") (rc g E bMax2) := by
  intro pins s σ H xs us Q I r ⟨ι, ds, st, R, rv, q⟩
  unfold bMax2 at q
  split at q
  · cases rv with
    | cons r1 r2 =>
      cases r2 with
      | cons r2 r3 => cases r3; cases r1; cases r2; exact call_max2 A.calm pins s σ H _ us Q I r ⟨_, _, rfl, tR.of q R (.int _)⟩
  · exact q.elim
theorem c_min2 (A : At X g E) : CallR X (.builtin "min") (rc g E bMin2) := by
  intro pins s σ H xs us Q I r ⟨ι, ds, st, R, rv, q⟩
  unfold bMin2 at q
  split at q
  · cases rv with
    | cons r1 r2 =>
      cases r2 with
      | cons r2 r3 => cases r3; cases r1; cases r2; exact call_min2 A.calm pins s σ H _ us Q I r ⟨_, _, rfl, tR.of q R (.int _)⟩
  · exact q.elim
end
end EV

namespace EV
open L2 PySem PySem.Spec PyProof.Rows

section
variable {X : Cx} {B : List EV.Row} {Z : List (Str × GV)} {g : Cfg} {E : XK} {n : Nat} {N : List Str} {ns : Ns} {x y : Str} {p pos px py pt pt2 apos cpos : Pos} {a b c e o i : PySem.Expr} {es : List PySem.Expr} {ma mb mc : ME} {mr : MA} {kt k2 : Nat}
/-! ### isinstance of an exception that is a value -/
def rIsX (K : PySem.W.Frag) : List V → Hp → VK → Prop := fun xs H Q => ∃ (a C : Addr) (ι : List Addr) (c : V) (cv : Value) (b : Bool), xs = [.ref a, c] ∧ XoAt H ι C a ∧ ExcC K C ∧ (∀ u, RelV c u → u = cv) ∧ PySem.W.kitOne K (.ref C) cv = some b ∧ Q (.bl b) H
theorem call_isX : CallR X (.builtin "isinstance") (rIsX X.K) := by
  intro pins s σ H xs us Q I r h
  obtain ⟨a, C, ι, c, cv, b, rfl, hX, hC, hcv, e, q⟩ := h
  obtain ⟨u1, u2, rfl, r1, r2⟩ := vals2 r
  cases (show u1 = Value.ref a from r1)
  have ec := hcv _ r2
  subst ec
  have hcl : (PySem.W.clsIn X.K C).isSome = true := by
    cases hc : PySem.W.clsIn X.K C with
    | some cd => rfl
    | none =>
      have z := hC.hd
      unfold PySem.W.hasDictIn at z
      rw [hc] at z
      cases z
  have fin : ∀ {ox : Obj} {od : Option Obj}, PySem.W.InstAt s.heap a ox C od → wpAny (model X.prog X.w) X.A (call (.builtin "isinstance") [.ref a, u2]) (EP X pins σ Q) X.xe s := fun J =>
    PySem.W.kia_one (PySem.W.kitx_exc hcl hC.hg hC.hk hC.hs hC.ha hC.hn hC.ht hC.hm) I.kIn J e (fun z => nomatch z) fun tk => ⟨.bl b, H, I.kept (t' := tk) fun _ _ z => z, rfl, q⟩
  obtain ⟨_, hX | ⟨dx, fs, h1, h2, _⟩⟩ := hX
  · have hk : ObjOk X.prog X.w H s.heap a (ExO (.ref C) a) := I.hok a _ hX
    obtain ⟨⟨oe, vs, ho, hz, hd, _⟩, _⟩ := hk
    obtain ⟨oc, od, oda, osl⟩ := oe
    obtain ⟨k1, k2⟩ := hz
    dsimp only at k1 k2 hd
    subst k1 k2 hd
    exact fin (od := none) ⟨ho, rfl, rfl, trivial⟩
  · obtain ⟨t1, ho⟩ := exo_at I.hok h1
    obtain ⟨mA, ⟨oD, eS, eP, hoD, hr⟩, _⟩ := exd_at I.hok h2
    exact fin (od := some oD) ⟨ho, rfl, rfl, hoD⟩
def tbF (tb : List (Str × Bool)) (d : D) (s : S) : R D := match d with
  | .exo x => match tb.lookup x with
    | some b => .ok (.bl b) s
    | none => .no
  | _ => .no
def IsF (K : PySem.W.Frag) (cv : Value) (tb : List (Str × Bool)) : Prop := ∀ x b, tb.lookup x = some b → ∀ C, PySem.W.nsIn K mainGlobals x = some (some (.ref C)) → ExcC K C ∧ PySem.W.kitOne K (.ref C) cv = some b
theorem isE_core (C : Ct X B Z g E n N ns) (tb : List (Str × Bool)) {t : PySem.Expr} {v : V} {cv : Value} (h1 : glB' ns "isinstance" = true) (z1 : Z.lookup ("isinstance" : Str) = some GV.bi) (ht : PE X t (tC v)) (hcv : ∀ u, RelV v u → u = cv) (hF : IsF X.K cv tb) (ha : PE X a (te g E ma))
    (he : starEach [a, t] X.env = (false, eval a X.env) :: starEach [t] X.env) (he2 : starEach [t] X.env = (false, eval t X.env) :: starEach [] X.env) : PE X (.Call (.Name "isinstance" p) [a, t] [] pos) (te g E (mUn (tbF tb) ma)) := by
  obtain ⟨k1, k2, k3⟩ := glB_of h1
  refine PE.imp (pe_callB call_isX (C.glob k1) (C.nm _ _ z1) boot_isinstance (pa_cons ha (pa_cons ht pa_nil he2) he) k3 k2 he (by rw [he2]; rfl)) fun σ H Q ⟨ι, e, s, R, q, h⟩ => ⟨ι, e, s, R, q, tR.bind h fun d s1 w H1 ι1 _ f1 R1 r1 h1 => ?_⟩
  cases r1 with
  | @exo x Ca ad k4 k5 =>
    unfold tbF at h1
    simp only at h1
    cases hb : tb.lookup x with
    | none => rw [hb] at h1; exact h1.elim
    | some b =>
      rw [hb] at h1
      have k4' : PySem.W.nsIn X.K mainGlobals x = some (some (.ref Ca)) := by rw [C.at_.K]; exact k4
      obtain ⟨f1, f2⟩ := hF x b hb Ca k4'
      exact ⟨ad, Ca, ι1, v, cv, b, rfl, k5, f1, hcv, f2, tR.of h1 R1 (.bl _)⟩
  | _ => exact h1.elim
/-- isinstance(a, T), T a built-in class -/
theorem isEb (C : Ct X B Z g E n N ns) (tb : List (Str × Bool)) (T : String) {t : Str} (h1 : glB' ns "isinstance" = true) (z1 : Z.lookup ("isinstance" : Str) = some GV.bi) (h2 : glB' ns t = true) (ht : bootBuiltins t = some (.type T)) (z2 : Z.lookup t = some .bi) (hF : IsF X.K (.type T) tb) (ha : PE X a (te g E ma))
    (he : starEach [a, .Name t pt] X.env = (false, eval a X.env) :: starEach [.Name t pt] X.env := by rfl) : PE X (.Call (.Name "isinstance" p) [a, .Name t pt] [] pos) (te g E (mUn (tbF tb) ma)) := by
  obtain ⟨q1, q2, q3⟩ := glB_of h2
  exact isE_core C tb h1 z1 (pe_bltn (v := .ty T) (C.glob q1) (C.nm _ _ z2) ht rfl q3 q2) (fun _ r => r) hF ha he rfl
/-- .. an own class -/
theorem isEo (C : Ct X B Z g E n N ns) (tb : List (Str × Bool)) {t : Str} {c : Addr} (h1 : glB' ns "isinstance" = true) (z1 : Z.lookup ("isinstance" : Str) = some GV.bi) (h2 : glB' ns t = true) (hm : X.mg t = some (.ref c)) (hF : IsF X.K (.ref c) tb) (ha : PE X a (te g E ma))
    (he : starEach [a, .Name t pt] X.env = (false, eval a X.env) :: starEach [.Name t pt] X.env := by rfl) : PE X (.Call (.Name "isinstance" p) [a, .Name t pt] [] pos) (te g E (mUn (tbF tb) ma)) := by
  obtain ⟨q1, q2, q3⟩ := glB_of h2
  exact isE_core C tb h1 z1 (pe_glob (v := .ref c) (C.glob q1) hm rfl q2) (fun _ r => r) hF ha he rfl
end
end EV

namespace EV
open L2 PySem PySem.Spec PyProof.Rows

/-! ### the top, the law's own call -/
/-- a def stands in the written part -/
def FunAt (K : PySem.W.Frag) (x : Str) (st : PySem.Stmt) : Prop := ∃ (f : Addr) (oc : Value) (od : Option Addr) (kV doc pm : Value) (an : Option Addr) (cdv ct : Value) (osl : Array (Option Value)),
  PySem.W.nsIn K mainGlobals x = some (some (.ref f)) ∧ K.lookup f = some ⟨oc, od, .func (PySem.W.fnOf x x (defArgs st) (defBody st) (defScope st) .none kV doc pm an cdv ct), osl⟩ ∧ PySem.W.codeIn K cdv x = true ∧ PySem.W.keepIn K (.ref f) = true
theorem FunAt.fun {K : PySem.W.Frag} {x : Str} {st : PySem.Stmt} {h : Heap} {mg : Str → Option Value} (X : K.In h) (G : h.Ns mainGlobals mg) (F : FunAt K x st) : ∃ f fd, mg x = some (.ref f) ∧ Fun K x x st f fd := by
  obtain ⟨f, oc, od, kV, doc, pm, an, cdv, ct, osl, a, l, c, k⟩ := F
  exact ⟨f, _, PySem.W.mg_of X G a, fun_mk l c k⟩
/-- a name of the top -/
def GvAt (K : PySem.W.Frag) (B : List EV.Row) (x : Str) : GV → Prop
  | .fn i => ∀ r : EV.Row, B[i]? = some r → r.x = x
  | .bi => PySem.W.nsIn K mainGlobals x = some none
  | .mf id => PySem.W.nsIn K mainGlobals x = some (some (.builtin id))
  | .cst d => ∃ v u, PySem.W.nsIn K mainGlobals x = some (some u) ∧ RelV v u ∧ ∀ H ι, RV K H ι d v
  | .exc _ => True
theorem zOk {K : PySem.W.Frag} {B : List EV.Row} {Z : List (Str × GV)} {h : Heap} {mg : Str → Option Value} (X : K.In h) (G : h.Ns mainGlobals mg) (hZ : ∀ x v, Z.lookup x = some v → GvAt K B x v) : ∀ x v, Z.lookup x = some v → match v with
      | .fn i => ∀ r : EV.Row, B[i]? = some r → r.x = x
      | .bi => mg x = none
      | .mf id => mg x = some (.builtin id)
      | .cst d => ∃ v u, mg x = some u ∧ RelV v u ∧ ∀ H ι, RV K H ι d v
      | .exc _ => True := by
  intro x v e
  have z := hZ x v e
  cases v with
  | fn i => exact z
  | bi => exact PySem.W.mg_none_of X G z
  | mf id => exact PySem.W.mg_of X G z
  | cst d =>
    obtain ⟨v, u, h1, h2, h3⟩ := z
    exact ⟨v, u, PySem.W.mg_of X G h1, h2, h3⟩
  | exc c => exact z
/-- what a list says name by name -/
def AllZ (P : Str → GV → Prop) : List (Str × GV) → Prop
  | [] => True
  | (x, v) :: r => P x v ∧ AllZ P r
theorem AllZ.get {P : Str → GV → Prop} : ∀ {Z : List (Str × GV)}, AllZ P Z → ∀ x v, Z.lookup x = some v → P x v
  | [], _, x, v, e => by simp at e
  | (y, w) :: r, h, x, v, e => by
    rw [List.lookup_cons] at e
    cases hx : x == y with
    | true =>
      rw [hx] at e
      cases e
      rw [beq_iff_eq.mp hx]
      exact h.1
    | false =>
      rw [hx] at e
      exact AllZ.get h.2 x v e
def AllB (P : EV.Row → Prop) : List EV.Row → Prop
  | [] => True
  | r :: rs => P r ∧ AllB P rs
theorem AllB.get {P : EV.Row → Prop} : ∀ {B : List EV.Row}, AllB P B → ∀ r ∈ B, P r
  | [], _, r, h => by simp at h
  | b :: bs, k, r, h => by
    rcases List.mem_cons.mp h with h | h
    · rw [h]; exact k.1
    · exact AllB.get k.2 r h
def isTrueR (r : R D) : Bool := match r with
  | .ok (.bl b) _ => b
  | _ => false
def spTrue : Sp := fun vs _ Q _ => (∃ v, vs = [v]) ∧ ∀ H', Q (.bl true) H'
theorem law_closed {P : Program} {w : World} {K : PySem.W.Frag} {mg : Str → Option Value} {base : Heap} {B : List EV.Row} {Z : List (Str × GV)} {RX : PySem.W.Frag → List Addr → Hp → List Addr → Ex → Value → Option Addr → Prop} {PX : Cx → Prop}
    (hB : ∀ r ∈ B, RowOk B Z RX PX r) (hfn : ∀ (i : Nat) (r : EV.Row), B[i]? = some r → ∃ f fd, mg r.x = some (.ref f) ∧ Fun K r.x r.x r.st f fd)
    (hPX : ∀ X : Cx, X.K = K → X.mg = mg → X.prog = P → X.w = w → X.base = base → PX X)
    (hZ : ∀ x v, Z.lookup x = some v → match v with
      | .fn i => ∀ r : EV.Row, B[i]? = some r → r.x = x
      | .bi => mg x = none
      | .mf id => mg x = some (.builtin id)
      | .cst d => ∃ v u, mg x = some u ∧ RelV v u ∧ ∀ H ι, RV K H ι d v
      | .exc _ => True)
    {r : EV.Row} {n : Nat} (hr : r ∈ B) (hl : r.ps.length = 1) {f : Addr} {fd : FuncData} (F : Fun K r.x r.x r.st f fd)
    (hev : isTrueR (finF (r.m (run B n) (List.replicate r.N.length none) ⟨0, []⟩)) = true) : FnOk P w K mg base (L2.CX P w) (n + 3) f fd r.ps spTrue := by
  have ok := hB r hr
  have ih := fn_ok (P := P) (w := w) (base := base) (T := []) hB hfn hPX hZ n
  refine F.okX ok.sc (fun vs H Q E h => ?_) (fun cdv A outer s H vs Q E hroom h => ?_)
  · obtain ⟨⟨v, rfl⟩, _⟩ := h
    exact hl.symm
  · obtain ⟨⟨v, rfl⟩, hQ⟩ := h
    refine ⟨_, ok.body (E := E) (n := n) (T := []) (K := K) (hPX _ rfl rfl rfl rfl rfl) ⟨rfl, rfl⟩ ⟨⟨rfl, rfl, ?_, takes_of rfl rfl rfl rfl, passes_of rfl⟩, rfl, ok.sc.nd, hroom, fun x h => h, fun x h => h, fun x h => .inl h, fun x h => h, fun x h => rfl, ok.sc.kind, fun x v hz => ?_⟩,
      ⟨[], List.replicate r.N.length none, ⟨0, []⟩, ⟨fun P hP => absurd (show P ∈ ([] : List Addr) from hP) (by simp), rfl, rfl, List.nodup_nil, fun q c a e => by simp [S.get] at e⟩, ⟨?_, fun i d e => ?_⟩, fin_ts ?_⟩⟩
    · have := hroom.un
      show (A.deeper _).units + 200 < cLine
      omega
    · have z := hZ x v hz
      cases v with
      | fn j =>
        intro r' hr'
        have e := z r' hr'
        subst e
        obtain ⟨f', fd', k1, k2⟩ := hfn j r' hr'
        exact ⟨rfl, f', fd', k1, k2, ih j r' hr' f' fd' k1 k2⟩
      | bi => exact z
      | mf id => exact z
      | cst d => exact z
      | exc c => exact z
    · have hN : r.N.length ≥ 1 := by
        have := congrArg List.length ok.sc.pre
        rw [List.length_take, hl] at this
        omega
      simp [L2.start]
      omega
    · rw [List.getElem?_replicate] at e
      split at e <;> cases e
    · revert hev
      show isTrueR (finF (r.m (run B n) (List.replicate r.N.length none) ⟨0, []⟩)) = true → tRe _ _ (finF (r.m (run B n) (List.replicate r.N.length none) ⟨0, []⟩)) H [] Q
      generalize finF (r.m (run B n) (List.replicate r.N.length none) ⟨0, []⟩) = q
      intro hev
      unfold isTrueR at hev
      split at hev
      · rename_i b s1
        subst hev
        intro v H' ι' _ _ rv
        cases rv
        exact hQ _
      · cases hev
/-- THE END: the law's call -/
theorem end_closed {l : PySem.W.OpenLaw} {q : Program} {loose : List Str} {XP : (Str → Option Value) → Heap → Prop} {YP : World → Heap → Prop} {d : DefRec} {K : Params → PySem.W.Frag} {B : List EV.Row} {Z : List (Str × GV)} {RX : PySem.W.Frag → List Addr → Hp → List Addr → Ex → Value → Option Addr → Prop} {r : EV.Row} {n : Nat}
    (hn : l.most = some 63) (hdf : d.params.defaults = []) (hY : ∀ (w : World) (h : Heap), YP w h → (K w.params).In h) (hd : d.name = r.x) (hr : r ∈ B) (hps : r.ps = [("script" : Str)]) (hnn : n ≤ 100)
    (hB : ∀ r ∈ B, RowOk B Z RX (fun _ => True) r) (hev : isTrueR (finF (r.m (run B n) (List.replicate r.N.length none) ⟨0, []⟩)) = true)
    (hb : ∀ {K : PySem.W.Frag} {f : Addr} {fd : FuncData}, Fun K r.x r.x r.st f fd → ∀ (s : Shared) (u : Value), BindsTo s fd ⟨[u], []⟩ [(("script" : Str), u)])
    (hfun : ∀ w : World, AllB (fun r => FunAt (K w.params) r.x r.st) B) (hz : ∀ w : World, AllZ (GvAt (K w.params) B) Z) :
    PySem.W.WalkO q loose XP YP l.row.toRowW d [] (fun f vs => PySem.call f vs) := by
  have hroom : Room (n + 3) callerA := by
    have h0 : Room 103 callerA := by constructor <;> decide
    exact h0.mono (by omega)
  refine L2.walk_of (n := 63) (k := n + 3) (x := ("script" : Str)) (CX := fun w => L2.CX l.prog w) (sp := fun _ => spTrue) hn (by decide) hdf hroom hY (fun w mg fa h KX G hmg => ?_) (fun _ _ a ns hl _ hS => ⟨⟨_, rfl⟩, fun _ => rfl⟩) fun w H s e s' z => ?_
  · have hfn : ∀ (i : Nat) (r : EV.Row), B[i]? = some r → ∃ f fd, mg r.x = some (.ref f) ∧ Fun (K w.params) r.x r.x r.st f fd := fun i r e => (AllB.get (hfun w) r (List.mem_of_getElem? e)).fun KX G
    obtain ⟨i, hi⟩ := List.mem_iff_getElem?.mp hr
    obtain ⟨f, fd, hm, F⟩ := hfn i r hi
    rw [hd, hm] at hmg
    cases hmg
    refine ⟨fd, fun s u => hb F s u, fun base hK hN => ?_⟩
    have := law_closed (P := l.prog) (w := w) (base := base) hB hfn (fun _ _ _ _ _ _ => trivial) (zOk KX G (AllZ.get (hz w))) hr (by rw [hps]; rfl) F hev
    rw [hps] at this
    exact this
  · obtain ⟨_, _, _, _, _, _, _, _, _, _, _, _, z⟩ := z
    exact z
end EV

namespace EV
open L2 PySem PySem.Spec PyProof.Rows

section
variable {X : Cx} {B : List EV.Row} {Z : List (Str × GV)} {g : Cfg} {E : XK} {n : Nat} {N : List Str} {ns : Ns} {x y : Str} {p pos px py pt pt2 apos cpos : Pos} {a b c e o i : PySem.Expr} {es : List PySem.Expr} {ma mb mc : ME} {mr : MA} {kt k2 : Nat}
/-! ### an own error class without an __init__, called with nothing -/
structure ErrC (X : Cx) (x : Str) (C : Addr) : Prop where
  ex : ∃ (Bn newId initId : String) (bmB : List Value), ExcBaseFacts Bn newId initId bmB ∧ PySem.W.excIn X.K C bmB newId = true
  g : X.mg x = some (.ref C)
  k : PySem.W.keepIn X.K (.ref C) = true
  ns : PySem.W.nsIn X.K mainGlobals x = some (some (.ref C))
theorem run_err0 {C : Addr} {pins : List (Addr × Obj)} {s : Shared} {σ : L2.St} {H : Hp} {Q : Value → Shared → Prop} (T : ErrC X x C) (I : Inv X pins σ H s)
    (h : ∀ (hn : Heap) (ad : Addr), Heap.MadeExcOf s.heap hn ad (.ref C) [] → Q (.ref ad) { s with heap := hn }) : wpAny (model X.prog X.w) X.A (call (.ref C) []) Q X.xe s := by
  obtain ⟨Bn, ni, ii, bm0, F, q⟩ := T.ex
  obtain ⟨m1, m2, m3, m4, m5, m6, m7, m8, m9, m10, m11, m12, m13, m14, m15, m16, m17, f1, f2, f3, f4⟩ := exc_obj I.kIn q
  exact wpAny_call_exc_subT F f4 f1 f2 f3 (fun hn ad hm => h hn ad hm) (by decide)
theorem pe_err0 {C : Addr} (T : ErrC X x C) (hg : Gl X x) (hdb : (x == ("__debug__" : Str)) = false) : PE X (.Call (.Name x p) [] [] pos) (fun σ H Q => ∀ ad, H ad = none → Q (.ref ad) (upd H ad (ExO (.ref C) ad))) := by
  refine ⟨fun pins s σ H Q I h => ?_⟩
  refine wpAny_Call_Name_kw (ld_glob I hg T.g ?_ hdb)
  refine PySem.W.callWith_K0 I.kIn T.k (run_err0 T I fun hn ad hm => ?_)
  have nn : H ad = none := I.hok.gone hm.new
  obtain ⟨tt, hat, _, _⟩ := hm.there
  exact ⟨.ref ad, _, I.laidN hm.keeps hm.new nn (exO_ok hat ⟨rfl, rfl⟩ rfl rfl rfl (show 4 < 6 by decide)), rfl, h ad nn⟩
def mExo (x : Str) : ME := fun _ _ s => .ok (.exo x) s
theorem e_err0 (C : Ct X B Z g E n N ns) {c : Addr} (T : ErrC X x c) (h : glB' ns x = true) : PE X (.Call (.Name x p) [] [] pos) (te g E (mExo x)) := by
  obtain ⟨k1, k2, k3⟩ := glB_of h
  refine PE.imp (pe_err0 T (C.glob k1) k2) fun σ H Q ⟨ι, en, s, R, q, hq⟩ ad hn => ?_
  have hq' : tRe g E (.ok (.exo x) s) H ι Q := hq
  exact hq' _ _ _ (Fw.new hn) (R.new hn) (.exo (by rw [← C.at_.K]; exact T.ns) ⟨R.notin hn, .inl upd_same⟩)
/-- raise C() -/
theorem pmk_err0 {C : Addr} (T : ErrC X x C) (r : Raises X (.ref C)) (hg : Gl X x) (hdb : (x == ("__debug__" : Str)) = false) : PMk X (.Call (.Name x p) [] [] pos) (fun _ H Q => Q (.ref C) none H) := by
  intro pins s σ H Q I h
  refine wpAny_Call_Name_kw (ld_glob I hg T.g ?_ hdb)
  exact PySem.W.callWith_K0 I.kIn T.k (run_err0 T I fun hn ad hm => mk_of I hm r h (I.hok.gone hm.new))
end
end EV

namespace EV
open L2 PySem PySem.Spec PyProof.Rows

/-! ### an own error class with an __init__ that hands on and keeps one field -/
structure ErrI (K : PySem.W.Frag) (C : Addr) (Bn newId initId : String) (bmB : List Value) : Prop where
  FB : ExcBaseFacts Bn newId initId bmB
  SF : StoreFacts Bn bmB "object.__setattr__" "object"
  cls : ∃ nm q M bs bm sn sub ab col dd k0 k1 k2 k3 k5, K.lookup C = some (excClassObj nm q C M bs bm true sn sub ab col dd k0 k1 k2 k3 k5 newId) ∧ PySem.W.excTail bmB bm = true
  sa : PySem.W.findIn K (.ref C) "__setattr__" = some (some (.builtin "object.__setattr__"))
  exC : PySem.W.subIn K (.ref C) (.type "BaseException") = some true
  tyC : PySem.W.typeIn K (.ref C) = some (.type "type")
  kC : PySem.W.keepIn K (.ref C) = true
theorem ErrI.cl {K : PySem.W.Frag} {C : Addr} {Bn newId initId : String} {bmB : List Value} (T : ErrI K C Bn newId initId bmB) : ∃ cd, PySem.W.clsIn K C = some cd ∧ cd.hasDict = true ∧ PySem.W.excOver K C bmB = true ∧ PySem.W.hasDictIn K C = true := by
  obtain ⟨nm, q, M, bs, bm, sn, sub, ab, col, dd, k0, k1, k2, k3, k5, hC, hb⟩ := T.cls
  have hc : PySem.W.clsIn K C = some { name := nm, bases := bs, mro := .ref C :: bm, ns := M, qualname := q, hasDict := true, slotNames := sn, subclasses := sub, abstract := ab, collection := col, hasDel := false } := by
    unfold PySem.W.clsIn
    rw [hC] <;> rfl
  refine ⟨_, hc, rfl, ?_, ?_⟩
  · unfold PySem.W.excOver
    rw [hc]
    show (C == C && PySem.W.excTail bmB bm) = true
    rw [hb, beq_self_eq_true]
    rfl
  · unfold PySem.W.hasDictIn
    rw [hc]
    rfl
section
variable {X : Cx} {pins : List (Addr × Obj)} {σ : L2.St} {H : Hp} {s : Shared} {a C : Addr} {f : Str} {v : V} {u : Value} {Bn newId initId : String} {bmB : List Value} {A : Around} {E : Value → Shared → Prop}
/-- the base's __init__ -/
theorem base_init {us : List Value} {Q : Value → Shared → Prop} (T : ErrI X.K C Bn newId initId bmB) (I : Inv X pins σ H s) (e : H a = some (exo a C none)) (hl : us.length ≤ sizeLine) (h : ∀ s2, Inv X pins σ H s2 → Q .none s2) :
    wpAny (model X.prog X.w) A (call (.builtin initId) (.ref a :: us)) Q E s := by
  obtain ⟨m1, m2, m3, m4, bm, m6, m7, m8, m9, m10, m11, m12, m13, m14, m15, hC, hb⟩ := T.cls
  obtain ⟨t1, ho⟩ := exo_at I.hok e
  obtain ⟨hp, gg, dd, tt, oo⟩ := s
  refine wpAny_call (PySem.HandSPX.init_base T.FB (fun Y => PySem.W.excTail_contains Y bm hb) (I.kIn _ _ hC) ho hl fun h2 t2 k hx => ?_)
  have same : upd H a (exo a C none) = H := funext fun b => by
    by_cases hb : b = a
    · subst hb; rw [upd_same, e]
    · exact upd_ne hb
  have J := I.write (t' := tt) (x := a) (e := a) (o := exo a C none) (by rw [e]; trivial) (.inl rfl) k ⟨_, hx⟩ (exo_ok hx)
  rw [same] at J
  exact h _ J
/-- the first field of such an error -/
theorem err_store {Q : Unit → Shared → Prop} (T : ErrI X.K C Bn newId initId bmB) (I : Inv X pins σ H s) (e : H a = some (exo a C none)) (hno : PySem.W.findIn X.K (.ref C) f = some none) (rv : RelV v u)
    (h : ∀ dx s2, H dx = none → dx ≠ a → Inv X pins σ (upd (upd H dx (exd dx [(f, v)])) a (exo a C (some dx))) s2 → Q () s2) : wpAny (model X.prog X.w) A (setAttr (.ref a) f u) Q E s := by
  obtain ⟨cd, hcd, hdict, hov, _⟩ := T.cl
  obtain ⟨t1, ho⟩ := exo_at I.hok e
  obtain ⟨hp, gg, dd, tt, oo⟩ := s
  have inst : PySem.W.InstAt hp a { cls := .ref C, dict := none, data := .fields #[.ref t1, .none, .none, .none, .bool false, .none] } C none := ⟨ho, rfl, rfl, trivial⟩
  have tk : PySem.W.takerIn X.K C f = some none := by unfold PySem.W.takerIn; rw [hno]; rfl
  refine PySem.W.set_plain I.kIn inst T.sa (PySem.W.osa_openX T.SF I.kIn inst hov tk fun b => ?_)
  refine wpAny_bind (wpAny_pure (wpAny_bind (PySem.W.instanceDict_exc (c2 := .none) ho (PySem.W.looks_clsIn I.kIn hcd) hdict ?_)))
  have lt : a < hp.objs.size := Heap.lt_size ho
  have ne : hp.objs.size ≠ a := Nat.ne_of_gt lt
  show wpAny _ _ (Builtin.ObjectAttr.storeInDict hp.objs.size _ f u) _ _ _
  refine PySem.HandSPX.store_in_new ⟨_, #[], 0, (Heap.get?_update_ne _ _ _ _ ne).trans (Heap.get?_push_at rfl rfl), rfl, fun y hy => absurd hy (by simp), fun _ => rfl⟩ fun h2 t2 hn sb => ?_
  -- what stood, stands
  have keep : ∀ b o, b ≠ a → hp.get? b = some o → h2.get? b = some o := fun b o hb q =>
    (sb.2 b (Nat.ne_of_lt (Heap.lt_size q))).trans ((Heap.get?_update_ne _ _ _ _ hb).trans (Heap.get?_push_of_some _ q))
  have obj : h2.get? a = some ({ cls := .ref C, dict := some hp.objs.size, data := .fields #[.ref t1, .none, .none, .none, .bool false, .none] } : Obj) :=
    (sb.2 a (Nat.ne_of_lt lt)).trans (Heap.get?_update_self _ (Heap.get?_push_of_some _ ho) rfl)
  have free : H hp.objs.size = none := I.hok.fresh (Nat.le_refl _)
  have un : Un X.fs [] H (upd (upd H hp.objs.size (exd hp.objs.size [(f, v)])) a (exo a C (some hp.objs.size))) hp h2 := by
    have apart : ∀ {b : Addr}, H b = none → b ≠ a := fun n z => by subst z; rw [e] at n; cases n
    have old : ∀ {b : Addr} {o : Obj}, hp.get? b = some o → b ≠ hp.objs.size := fun q => Nat.ne_of_lt (Heap.lt_size q)
    constructor
    · intro b o q n' _ _
      exact keep b o (apart n') q
    · intro b o q n' _ _
      exact ⟨o.slots, keep b o (apart n') q⟩
    · intro b o q n' _
      rw [upd_ne (apart n'), upd_ne (old q)]
      exact n'
    · intro b o q _
      by_cases hb : b = a
      · subst hb; exact ⟨_, obj⟩
      · exact ⟨o, keep b o hb q⟩
    · intro b xs q
      rw [upd_ne (at_ne e q exo_tup), upd_ne (ne_of_none q free)]
      exact q
    · intro b o w q
      rw [upd_ne (at_ne e q exo_frz), upd_ne (ne_of_none q free)]
      exact q
    · intro b ps q
      refine ⟨#[], ?_⟩
      rw [upd_ne (at_ne e q exo_tbl), upd_ne (ne_of_none q free), q]
      simp
  refine h hp.objs.size _ free ne (I.un (t' := t2) un fun b o q => ?_)
  by_cases h1 : b = a
  · subst h1
    rw [upd_same] at q
    cases q
    exact exo_ok obj
  · rw [upd_ne h1] at q
    by_cases h3 : b = hp.objs.size
    · subst h3
      rw [upd_same] at q
      cases q
      exact exd_ok hn (relO_put (fs := []) rv fun _ => trivial)
    · rw [upd_ne h3] at q
      refine (I.hok b o q).stay (fun c w hc z => keep c w ?_ z) (fun c hc => ?_) fun c xs hc => ?_
      · rcases hc with hc | hc
        · rw [hc]; exact h1
        · exact at_ne e hc exo_own
      · rw [upd_ne (at_ne e hc exo_own), upd_ne (ne_of_none hc free)]
        exact hc
      · rw [upd_ne (at_ne e hc exo_tup), upd_ne (ne_of_none hc free)]
        exact hc
end
end EV

namespace EV
open L2 PySem PySem.Spec PyProof.Rows

section
variable {X : Cx} {x y f : Str} {p pos px py p1 p2 p3 : Pos} {a b c e o i : PySem.Expr} {es : List PySem.Expr} {ta : TA} {tv to : TE} {Bn newId initId : String} {bmB : List Value} {C : Addr}
/-- Base.__init__(self, ..) -/
def tBi (K : PySem.W.Frag) (Bn newId initId : String) (bmB : List Value) (ta : TA) : TE := fun σ H Q => ta σ H fun vs H1 => ∃ (ad C : Addr) (ws : List V), vs = .ref ad :: ws ∧ ws.length ≤ 1000 ∧ ErrI K C Bn newId initId bmB ∧ H1 ad = some (exo ad C none) ∧ Q .non H1
structure BaseN (X : Cx) (Bn initId : String) : Prop where
  g : Gl X (Bn : Str)
  m : X.mg (Bn : Str) = none
  boot : bootBuiltins (Bn : Str) = some (.type Bn)
  typ : typeOf (.type Bn) = pure (.type "type")
  stub : Manifest.isStub Bn = false
  find : PySem.W.findCls X.K (.type Bn) (.type "type") "__init__" = some (.val (.builtin initId))
  hand : PySem.W.handedIn (.builtin initId) = true
  nn : (Bn : Str) ≠ "__name__"
  nd : ((Bn : Str) == ("__debug__" : Str)) = false
theorem pe_binit {pl : Sem Bool} (T : BaseN X Bn initId) (ha : PA X (e :: es) ta)
    (hc : eval (.Call (.Attribute (.Name (Bn : Str) p1) "__init__" p2) (e :: es) [] pos) X.env = (do
      let ov ← eval (.Name (Bn : Str) p1) X.env
      standAt p2.atName
      let (f, first) ← holding [ov] (getMethod ov "__init__" pl)
      callWith pos f first (backTo pos (starEach (e :: es) X.env)) (backToKw pos (keywordEach [] X.env))) := by rfl)
    (he : starEach (e :: es) X.env = (false, eval e X.env) :: starEach es X.env := by rfl) (hpl : (backTo pos (starEach es X.env)).any (·.1) = false := by rfl) :
    PE X (.Call (.Attribute (.Name (Bn : Str) p1) "__init__" p2) (e :: es) [] pos) (tBi X.K Bn newId initId bmB ta) := by
  refine ⟨fun pins s σ H Q I h => ?_⟩
  refine PySem.W.methodCall_KW (ld_blt I T.g T.m T.boot ?_ T.nn T.nd) hc
  obtain ⟨mm, fr⟩ := I.fr
  refine PySem.W.method_type fr I.ok.mod.kin T.typ T.stub T.find T.hand ?_
  show wpAny _ _ (callWith pos (Value.builtin initId) [] (backTo pos (starEach (e :: es) X.env)) []) _ _ _
  refine PyProof.Rows.callWith_method1 (thn (ha.run pos pins _ σ H _ (I.tok _) h) fun us s2 ⟨vs, H1, I1, rv, ad, C, ws, ev, hl, hT, hx, q⟩ => ?_) he hpl
  subst ev
  cases rv with
  | @cons _ u0 _ ur r0 r1 =>
    cases (show u0 = Value.ref ad from r0)
    refine base_init hT I1 hx ?_ fun s3 J => ⟨.non, H1, J, rfl, q⟩
    rw [← Paired.length r1]
    exact Nat.le_trans hl (by decide)
/-- self.f = e, the first field -/
def tSt1 (K : PySem.W.Frag) (Bn newId initId : String) (bmB : List Value) (f : Str) (to tv : TE) : TS := fun D σ H => tv σ H fun y H1 => to σ H1 fun z H2 => ∃ ad C : Addr, z = .ref ad ∧ ErrI K C Bn newId initId bmB ∧ PySem.W.findIn K (.ref C) f = some none ∧ H2 ad = some (exo ad C none) ∧
  ∀ dx, H2 dx = none → dx ≠ ad → D.nx σ (upd (upd H2 dx (exd dx [(f, y)])) ad (exo ad C (some dx)))
theorem ps_st1 (ho : PE X o to) (hv : PE X e tv) (hs : swapsWith e (some (.Attribute o f p1)) pos.line X.env = pure false := by rfl) : PS X (.Assign [.Attribute o f p1] e pos) (tSt1 X.K Bn newId initId bmB f to tv) := by
  refine ⟨fun pins s σ H D I h => ?_⟩
  refine plainObj_wpAny_Assign_Attribute (thn (hv.run pins s σ H _ I h) fun w s2 ⟨y, H1, I1, r1, q1⟩ => thn (ho.run pins s2 σ H1 _ I1 q1) fun z s3 ⟨zv, H2, I2, r2, ad, C, hz, hT, hno, hx, q⟩ => ?_) hs
  subst hz
  cases (show z = Value.ref ad from r2)
  exact err_store hT I2 hx hno r1 fun dx s4 k1 k2 J => ⟨σ, _, J, q dx k1 k2⟩
/-- what such an __init__ promises -/
def spI (K : PySem.W.Frag) (Bn newId initId : String) (bmB : List Value) (C : Addr) (f : Str) : Sp := fun vs H Q _ => ∃ (ad : Addr) (v : V), vs = [.ref ad, v] ∧ ErrI K C Bn newId initId bmB ∧ PySem.W.findIn K (.ref C) f = some none ∧ H ad = some (exo ad C none) ∧
  ∀ dx, H dx = none → dx ≠ ad → Q .non (upd (upd H dx (exd dx [(f, v)])) ad (exo ad C (some dx)))
/-- C(..) by position or by name, called: what stands when it is back -/
theorem run_errI {CX : CXT} {pins : List (Addr × Obj)} {σ : L2.St} {H : Hp} {s : Shared} {k : Nat} {fI : Addr} {fd : FuncData} {ps : List Str} {v : V} {u : Value} {Q : Value → Shared → Prop} (T : ErrI X.K C Bn newId initId bmB) (iC : PySem.W.findIn X.K (.ref C) "__init__" = some (some (.ref fI))) (tI : PySem.W.typeIn X.K (.ref fI) = some (.type "function"))
    (hno : PySem.W.findIn X.K (.ref C) f = some none) (F1 : FnOk X.prog X.w X.K X.mg X.base CX k fI fd ps (spI X.K Bn newId initId bmB C f)) (hp : ps.length = 2) (hr : Room (k + 1) X.A) (hb : Binds X.K fd ps []) (hx : Passes CX X (fun _ _ _ => False)) (I : Inv X pins σ H s) (rv : RelV v u)
    (hq : ∀ (ad d : Addr) (s2 : Shared) (hp0 : Heap) (un : Un (frs X.stack) [] (upd H ad (exo ad C none)) (upd (upd (upd H ad (exo ad C none)) d (exd d [(f, v)])) ad (exo ad C (some d))) hp0 s2.heap), s.heap.objs.size ≤ ad → (∀ b o, s.heap.get? b = some o → hp0.get? b = some o) → H ad = none → H d = none → d ≠ ad →
      HOk X.prog X.w (upd (upd (upd H ad (exo ad C none)) d (exd d [(f, v)])) ad (exo ad C (some d))) s2.heap → s2.os = s.os → AllBare s2.gens → Inv X pins σ (upd (upd (upd H ad (exo ad C none)) d (exd d [(f, v)])) ad (exo ad C (some d))) s2 → Q (.ref ad) s2) :
    wpAny (model X.prog X.w) X.A (call (.ref C) [u]) Q X.xe s := by
  obtain ⟨m1, m2, m3, m4, bm, m6, m7, m8, m9, m10, m11, m12, m13, m14, m15, hC, hbm⟩ := T.cls
  obtain ⟨hp0, gg, dr, tk, oo⟩ := s
  have le : hp0.objs.size ≤ hp0.objs.size + 1 := Nat.le_succ _
  have fr : H (hp0.objs.size + 1) = none := I.hok.fresh le
  have kk : ∀ b o, hp0.get? b = some o → ((hp0.push (PySem.W.kdv_tup [u])).push (PySem.HandSPX.excO C hp0.objs.size)).get? b = some o := fun b o q => Heap.get?_push_of_some _ (Heap.get?_push_of_some _ q)
  have new : ((hp0.push (PySem.W.kdv_tup [u])).push (PySem.HandSPX.excO C hp0.objs.size)).get? (hp0.objs.size + 1) = some (PySem.HandSPX.excO C hp0.objs.size) := by heap_get
  have J := I.laid (t' := tk) (a := hp0.objs.size + 1) (o := exo (hp0.objs.size + 1) C none) kk le (exo_ok new)
  have bnd := hb ⟨(hp0.push (PySem.W.kdv_tup [u])).push (PySem.HandSPX.excO C hp0.objs.size), gg, dr, tk, oo⟩ [.ref (hp0.objs.size + 1), u] J.kIn (by rw [hp]; rfl)
  refine wpAny_call (PySem.HandSPX.call_own T.FB (fun Y => PySem.W.excTail_contains Y bm hbm) (I.kIn _ _ hC) (PySem.W.looks_findIn I.kIn iC) (fun self => PySem.W.bind_fn I.kIn self tI) (by show 1 ≤ sizeLine; decide)
    (codeAny_mono (F1.run _ X.stack _ _ ⟨[.ref (hp0.objs.size + 1), u], []⟩ _ [V.ref (hp0.objs.size + 1), v] (fun w H2 => w = .non ∧ ∃ d, H d = none ∧ d ≠ hp0.objs.size + 1 ∧ H2 = upd (upd (upd H (hp0.objs.size + 1) (exo (hp0.objs.size + 1) C none)) d (exd d [(f, v)])) (hp0.objs.size + 1) (exo (hp0.objs.size + 1) C (some d))) (fun _ _ _ => False) (hr.make C [u] []) (J.env0.make C [u] []) bnd (.cons rfl (.cons rv .nil))
      ⟨_, v, rfl, T, hno, upd_same, fun dx h1 h2 => ⟨rfl, dx, by rw [upd_ne h2] at h1; exact h1, h2, rfl⟩⟩) fun r s2 hq' => ?_))
  cases r with
  | error er => exact hx pins σ _ _ er s2 J hq'
  | ok fl =>
    cases fl with
    | ret w =>
      obtain ⟨wv, H2, os2, bare2, un2, hok2, rw2, ⟨ew, d, hd, hne, eH⟩⟩ := hq'
      subst ew eH
      exact ⟨rw2, hq _ d s2 _ un2 le kk fr hd hne hok2 os2 bare2 (J.call' (ch := []) os2 un2 hok2 bare2 fun b z => absurd z (by simp))⟩
    | next => exact False.elim hq'
    | brk => exact False.elim hq'
    | cont => exact False.elim hq'
/-- what a top says of such a class -/
structure ErrN (X : Cx) (x : Str) (C fI : Addr) (f : Str) (Bn newId initId : String) (bmB : List Value) : Prop where
  T : ErrI X.K C Bn newId initId bmB
  iC : PySem.W.findIn X.K (.ref C) "__init__" = some (some (.ref fI))
  tI : PySem.W.typeIn X.K (.ref fI) = some (.type "function")
  no : PySem.W.findIn X.K (.ref C) f = some none
  g : X.mg x = some (.ref C)
  ns : PySem.W.nsIn X.K mainGlobals x = some (some (.ref C))
theorem hp_eq {H : Hp} {ad d C : Addr} {f : Str} {v : V} (hne : d ≠ ad) : upd (upd (upd H ad (exo ad C none)) d (exd d [(f, v)])) ad (exo ad C (some d)) = upd (upd H d (exd d [(f, v)])) ad (exo ad C (some d)) := by
  funext b
  by_cases h1 : b = ad
  · subst h1; rw [upd_same, upd_same]
  · rw [upd_ne h1, upd_ne h1]
    by_cases h2 : b = d
    · subst h2; rw [upd_same, upd_same]
    · rw [upd_ne h2, upd_ne h2, upd_ne h1]
theorem hp_eq2 {H : Hp} {ad d C : Addr} {f : Str} {v : V} (ha : H ad = none) (hne : d ≠ ad) : upd (del (upd (upd (upd H ad (exo ad C none)) d (exd d [(f, v)])) ad (exo ad C (some d))) ad) d (.xd [(f, v)]) = upd H d (.xd [(f, v)]) := by
  funext b
  by_cases h2 : b = d
  · subst h2; rw [upd_same, upd_same]
  · rw [upd_ne h2, upd_ne h2]
    by_cases h1 : b = ad
    · subst h1; rw [del_same, ha]
    · rw [del_ne h1, upd_ne h1, upd_ne h2, upd_ne h1]
variable {B : List EV.Row} {Z : List (Str × GV)} {g : Cfg} {E : XK} {n : Nat} {N : List Str} {ns : Ns} {ma : ME}
def fExo (x : Str) (d : D) (s : S) : R D := .ok (.exo x) s
/-- C(e) as a value -/
theorem e_errI {CX : CXT} {k : Nat} {fI : Addr} {fd : FuncData} {ps : List Str} (C' : Ct X B Z g E n N ns) (T : ErrN X x C fI f Bn newId initId bmB) (h : glB' ns x = true) (F1 : FnOk X.prog X.w X.K X.mg X.base CX k fI fd ps (spI X.K Bn newId initId bmB C f)) (hp : ps.length = 2) (hr : Room (k + 1) X.A) (hb : Binds X.K fd ps []) (hx : Passes CX X (fun _ _ _ => False))
    (ha : PE X e (te g E ma)) (he : starEach [e] X.env = (false, eval e X.env) :: starEach [] X.env := by rfl) : PE X (.Call (.Name x p) [e] [] pos) (te g E (mUn (fExo x) ma)) := by
  obtain ⟨k1, k2, k3⟩ := glB_of h
  refine ⟨fun pins s σ H Q I ⟨ι, en, st, R, q, hh⟩ => ?_⟩
  refine wpAny_Call_Name_kw (ld_glob I (C'.glob k1) T.g ?_ k2)
  have hA := (pa_cons ha pa_nil he).run pos pins s σ H (fun vs H1 => ∃ v ι1 d s1, vs = [v] ∧ RS g.K g.T H1 ι1 s1 ∧ tRe g E (.ok (.exo x) s1) H1 ι1 Q) I
    ⟨ι, en, st, R, q, tR.bind hh fun d s1 v H1 ι1 _ f1 R1 r1 h1 => ⟨v, ι1, d, s1, rfl, R1, h1⟩⟩
  refine PySem.W.callWith_K (h₀ := X.base) I.ok.mod.kin T.T.kC (thn hA fun us s1 ⟨vs, H1, I1, rv, v, ι1, d, st1, ev, R1, h1⟩ => ⟨I1.kIn, ?_⟩) he (by rfl)
  subst ev
  obtain ⟨u, rfl, ru⟩ := Vals.one rv
  refine run_errI T.T T.iC T.tI T.no F1 hp hr hb hx I1 ru fun ad dd s2 hp0 un hsz kk hn hd hne hok ho hbare J => ?_
  rw [hp_eq hne] at J
  have hn2 : upd H1 dd (exd dd [(f, v)]) ad = none := by rw [upd_ne (Ne.symm hne)]; exact hn
  have R2 : RS g.K g.T (upd H1 dd (exd dd [(f, v)])) ι1 st1 := R1.new hd
  refine ⟨.ref ad, _, J, rfl, h1 _ _ _ ((Fw.new hd).trans (Fw.new hn2)) (R2.new hn2) (.exo (by rw [← C'.at_.K]; exact T.ns) ⟨R1.notin hn, .inr ⟨dd, [(f, v)], upd_same, ?_, R1.notin hd⟩⟩)⟩
  rw [upd_ne hne, upd_same]
def pm1 (P : V → Hp → Prop) : List V → Hp → Prop
  | [v], H => P v H
  | _, _ => False
/-- raise C(e): what flies -/
theorem pmk_errI {CX : CXT} {k : Nat} {fI : Addr} {fd : FuncData} {ps : List Str} {te1 : TE} (T : ErrN X x C fI f Bn newId initId bmB) (hg : Gl X x) (hdb : (x == ("__debug__" : Str)) = false) (F1 : FnOk X.prog X.w X.K X.mg X.base CX k fI fd ps (spI X.K Bn newId initId bmB C f)) (hp : ps.length = 2) (hr : Room (k + 1) X.A) (hb : Binds X.K fd ps []) (hx : Passes CX X (fun _ _ _ => False))
    (ha : PE X e te1) (he : starEach [e] X.env = (false, eval e X.env) :: starEach [] X.env := by rfl) : PMk X (.Call (.Name x p) [e] [] pos) (fun σ H Q => te1 σ H fun v H1 => ∀ d, H1 d = none → Q (.ref C) (some d) (upd H1 d (.xd [(f, v)]))) := by
  intro pins s σ H Q I hh
  refine wpAny_Call_Name_kw (ld_glob I hg T.g ?_ hdb)
  have hA := (pa_cons ha pa_nil he).run pos pins s σ H (pm1 fun v H1 => ∀ d, H1 d = none → Q (.ref C) (some d) (upd H1 d (.xd [(f, v)]))) I hh
  refine PySem.W.callWith_K (h₀ := X.base) I.ok.mod.kin T.T.kC (thn hA fun us s1 ⟨vs, H1, I1, rv, qv⟩ => ⟨I1.kIn, ?_⟩) he (by rfl)
  unfold pm1 at qv
  split at qv
  · rename_i v
    obtain ⟨u, rfl, ru⟩ := Vals.one rv
    refine run_errI T.T T.iC T.tI T.no F1 hp hr hb hx I1 ru fun ad dd s2 hp0 un hsz kk hn hd hne hok ho hbare J => ?_
    obtain ⟨h2, g2, d2, t2, o2⟩ := s2
    obtain ⟨h1, g1, d1, t1, o1⟩ := s1
    refine mk_end (raises_own T.T.exC T.T.tyC) I1 hsz kk un hok ho hbare upd_same (by rw [upd_ne hne, upd_same]) hd ?_
    rw [hp_eq2 hn hne]
    exact qv dd hd
  · exact qv.elim
end
end EV

namespace PySem.EVK
open PySem PySem.Spec PySem.W PySem.Calls PyProof.Rows PySem.HandSPX
/-! ### an own error class with its own __init__, called with one keyword -/
section
variable {prog : Program} {w : World} {M : Model} {A : Around} {E : Value → Shared → Prop} {R : Result → Shared → Prop} {h : Heap} {g : Array GenState} {d : Drawn} {t : Nat} {os : OsState}
variable {nm q : Str} {C N : Addr} {bs bm bmB : List Value} {hdct : Bool} {sn : List Str} {sub : List Value} {ab : Bool} {col : Option Bool} {dd : Option Addr} {k0 k1 k2 k3 k5 : Option Value} {B newId initId : String} {kn : Str} {kv : Value} {fI : Addr}
theorem chk_type (hC : h.get? C = some (excClassObj nm q C N bs bm hdct sn sub ab col dd k0 k1 k2 k3 k5 newId)) {Q : Unit → Shared → Prop} (hq : Q () ⟨h, g, d, t, os⟩) :
    wpAny M A (checkBuiltinCall "type.__call__" ⟨[.ref C], [(kn, kv)]⟩) Q E ⟨h, g, d, t, os⟩ := by
  have f3 := tc_sub
  have hT : (⟨h, g, d, t, os⟩ : Shared).TypeIs (.ref C) "type" := ⟨_, hC, rfl⟩
  simp only [checkBuiltinCall, tc_kind, tc_split]
  repeat (any_goals (first
    | assumption
    | with_reducible refine wpAny_loadPart_at hC ?_
    | with_reducible refine wpAny_onRaise ?_
    | with_reducible refine wpAny_map ?_
    | wp_step))
theorem chk_new (F : ExcBaseFacts B newId initId bmB) (hT : ∀ X : String, bm.contains (.type X) = bmB.contains (.type X)) (hC : h.get? C = some (excClassObj nm q C N bs bm hdct sn sub ab col dd k0 k1 k2 k3 k5 newId)) {Q : Unit → Shared → Prop} (hq : Q () ⟨h, g, d, t, os⟩) :
    wpAny M A (checkBuiltinCall newId ⟨[.ref C], [(kn, kv)]⟩) Q E ⟨h, g, d, t, os⟩ := by
  have hasB : (Value.ref C :: bm).contains (.type B) = true := by
    rw [List.contains_cons, hT, F.hasB]
    exact Bool.or_true _
  have ns := F.noStar
  simp only [checkBuiltinCall, F.newKind, F.newSplit, F.newRow]
  repeat (first
    | refine wpAny_loadPart_at hC ?_
    | (refine wpAny_isSubtype_exc hC ?_; rw [hasB])
    | refine wpAny_staticBase_exc hC ?_
    | refine wpAny_madeBy_exc hC ?_
    | simp only [bne_self_eq_false, Bool.false_eq_true, if_false]
    | wp_step)
  exact hq
theorem new_kw (F : ExcBaseFacts B newId initId bmB) (hT : ∀ X : String, bm.contains (.type X) = bmB.contains (.type X)) (hC : h.get? C = some (excClassObj nm q C N bs bm hdct sn sub ab col dd k0 k1 k2 k3 k5 newId))
    (hq : R (.ok (.ret (.ref (h.objs.size + 1)))) ⟨(h.push (W.kdv_tup [])).push (excO C h.objs.size), g, d, t, os⟩) : codeAny (model prog w) A (.builtin newId ⟨[.ref C], [(kn, kv)]⟩) R ⟨h, g, d, t, os⟩ := by
  have ends := F.ends
  have e1 : (Value.ref C :: bm).contains (.type B) = true := by
    rw [List.contains_cons, hT, F.hasB]
    exact Bool.or_true _
  have e2 : (Value.ref C :: bm).contains (.type "AttributeError") = false := by
    rw [List.contains_cons, hT, F.noAttr]
    rfl
  have e3 : (Value.ref C :: bm).contains (.type "NameError") = false := by
    rw [List.contains_cons, hT, F.noName]
    rfl
  refine codeAny_builtinAt F.entry ?_
  unfold Builtin.«BaseException.__new__»
  refine wpAt_bind ?_
  show wpAt _ _ _ (stack >>= _) _ _ _
  refine wpAt_bind (wpAt_stack fun pp bel => wpAt_of_wpAny ?_)
  wp_walk
  refine wpAt_of_wpAny ?_
  rw [F.owner]
  repeat (first
    | with_reducible refine wpAny_madeHere_exc F.canon hC ?_
    | with_reducible refine wpAny_loadPart_at hC ?_
    | (with_reducible refine wpAny_isSubtype_exc hC ?_
       first
         | rw [e1]
         | rw [e2]
         | rw [e3])
    | wp_step)
  show R _ _
  rw [Heap.size_push]
  exact hq
theorem type_kw (F : ExcBaseFacts B newId initId bmB) (hT : ∀ X : String, bm.contains (.type X) = bmB.contains (.type X)) {Q : Fin → Shared → Prop} (hC : h.get? C = some (excClassObj nm q C N bs bm hdct sn sub ab col dd k0 k1 k2 k3 k5 newId))
    (hi : W.Looks (model prog w) h (typeLookup (.ref C) "__init__") (some (.ref fI))) (hb : ∀ self, W.Looks (model prog w) h (bindSpecial (.ref fI) self) (.ref fI, [self]))
    (hq : codeAny (model prog w) A (.call (.ref fI) ⟨[.ref (h.objs.size + 1)], [(kn, kv)]⟩) (fun r s' => match r with | .ok (.ret v) => v = .none ∧ Q (.done (.ret (.ref (h.objs.size + 1)))) s' | .ok _ => False | .error e => E e s')
      ⟨(h.push (W.kdv_tup [])).push (excO C h.objs.size), g, d, t, os⟩) : wpAny (model prog w) A (Builtin.«type.__call__» ⟨[.ref C], [(kn, kv)]⟩) Q E ⟨h, g, d, t, os⟩ := by
  repeat (first
    | with_reducible refine wpAny_loadPart_at hC ?_
    | with_reducible refine wpAny_madeBy_exc hC ?_
    | wp_step)
  refine codeAny_call_builtin_code (Code.quiet_builtin _ F.quiet) (chk_new F hT hC (new_kw F hT hC ?_))
  show wpAny _ _ _ _ _ _
  have kk : ∀ b o, h.get? b = some o → ((h.push (W.kdv_tup [])).push (excO C h.objs.size)).get? b = some o := fun b o e => Heap.get?_push_of_some _ (Heap.get?_push_of_some _ e)
  have at1 : ((h.push (W.kdv_tup [])).push (excO C h.objs.size)).get? (h.objs.size + 1) = some (excO C h.objs.size) := by heap_get
  have self1 : (Value.ref C :: bm).contains (.ref C) = true := by simp
  have i1 := hi.keeps kk
  have b1 := (hb (.ref (h.objs.size + 1))).keeps kk
  have hC1 := kk _ _ hC
  unfold isInstance
  repeat (first
    | with_reducible refine wpAny_loadPart_at at1 ?_
    | (with_reducible refine wpAny_isSubtype_exc hC1 ?_
       rw [self1])
    | wp_step)
  show wpAny _ _ (typeLookup (.ref C) _) _ _ _
  refine i1.at (wpAny_holding (wpAny_bind (b1.at ?_)))
  refine wpAny_bind (wpAny_call (codeAny_mono hq fun r s' z => ?_))
  rcases r with e | (v | _ | _ | _) <;> first | exact z | exact z.elim | skip
  obtain ⟨e0, z⟩ := z
  subst e0
  first
    | exact wpAny_pure (wpAny_pure z)
    | (wp_walk; exact z)
theorem call_kw (F : ExcBaseFacts B newId initId bmB) (hT : ∀ X : String, bm.contains (.type X) = bmB.contains (.type X)) (hC : h.get? C = some (excClassObj nm q C N bs bm hdct sn sub ab col dd k0 k1 k2 k3 k5 newId))
    (hi : W.Looks (model prog w) h (typeLookup (.ref C) "__init__") (some (.ref fI))) (hb : ∀ self, W.Looks (model prog w) h (bindSpecial (.ref fI) self) (.ref fI, [self]))
    (hq : codeAny (model prog w) (A.under (.builtin "type.__call__" ⟨[.ref C], [(kn, kv)]⟩)) (.call (.ref fI) ⟨[.ref (h.objs.size + 1)], [(kn, kv)]⟩) (W.InitBack (h.objs.size + 1) R) ⟨(h.push (W.kdv_tup [])).push (excO C h.objs.size), g, d, t, os⟩) :
    codeAny (model prog w) A (.call (.ref C) ⟨[], [(kn, kv)]⟩) R ⟨h, g, d, t, os⟩ := by
  have f1 := tc_lookup
  have f2 := tc_bind (.ref C)
  have isT : (⟨h, g, d, t, os⟩ : Shared).TypeIs (.ref C) "type" := ⟨_, hC, rfl⟩
  refine codeAny_of_tree ?_
  show wpAny _ _ (callAny (.ref C) _) _ _ _
  repeat (any_goals (first
    | assumption
    | with_reducible refine wpAny_loadPart_at hC ?_
    | wp_step))
  refine ⟨rfl, codeAny_call_builtin_at (Code.quiet_builtin _ (by decide +kernel)) entry_typeCall (chk_type hC (type_kw F hT hC hi hb ?_))⟩
  refine codeAny_mono hq fun r s' z => ?_
  rcases r with e | (v | _ | _ | _) <;> exact z
end
end PySem.EVK

namespace EV
open L2 PySem PySem.Spec PyProof.Rows

section
variable {X : Cx} {x y f : Str} {p pos px py p1 p2 p3 kpos : Pos} {a b c e o i : PySem.Expr} {es : List PySem.Expr} {ta : TA} {tv to : TE} {Bn newId initId : String} {bmB : List Value} {C : Addr}
/-- how the __init__ binds its second parameter by name -/
def BindK (K : PySem.W.Frag) (fd : FuncData) (ps : List Str) (kn : Str) : Prop := ∀ (s : Shared) (u w : Value), BindsTo s fd ⟨[u], [(kn, w)]⟩ (ps.zip [u, w])
theorem run_errIK {CX : CXT} {pins : List (Addr × Obj)} {σ : L2.St} {H : Hp} {s : Shared} {k : Nat} {fI : Addr} {fd : FuncData} {ps : List Str} {v : V} {u : Value} {kn : Str} {Q : Value → Shared → Prop} (T : ErrI X.K C Bn newId initId bmB) (iC : PySem.W.findIn X.K (.ref C) "__init__" = some (some (.ref fI))) (tI : PySem.W.typeIn X.K (.ref fI) = some (.type "function"))
    (hno : PySem.W.findIn X.K (.ref C) f = some none) (F1 : FnOk X.prog X.w X.K X.mg X.base CX k fI fd ps (spI X.K Bn newId initId bmB C f)) (hr : Room (k + 1) X.A) (hb : BindK X.K fd ps kn) (hx : Passes CX X (fun _ _ _ => False)) (I : Inv X pins σ H s) (rv : RelV v u)
    (hq : ∀ (ad d : Addr) (s2 : Shared) (hp0 : Heap) (un : Un (frs X.stack) [] (upd H ad (exo ad C none)) (upd (upd (upd H ad (exo ad C none)) d (exd d [(f, v)])) ad (exo ad C (some d))) hp0 s2.heap), s.heap.objs.size ≤ ad → (∀ b o, s.heap.get? b = some o → hp0.get? b = some o) → H ad = none → H d = none → d ≠ ad →
      HOk X.prog X.w (upd (upd (upd H ad (exo ad C none)) d (exd d [(f, v)])) ad (exo ad C (some d))) s2.heap → s2.os = s.os → AllBare s2.gens → Q (.ref ad) s2) :
    wpAny (model X.prog X.w) X.A (call (.ref C) [] [(kn, u)]) Q X.xe s := by
  obtain ⟨m1, m2, m3, m4, bm, m6, m7, m8, m9, m10, m11, m12, m13, m14, m15, hC, hbm⟩ := T.cls
  obtain ⟨hp0, gg, dr, tk, oo⟩ := s
  have le : hp0.objs.size ≤ hp0.objs.size + 1 := Nat.le_succ _
  have fr : H (hp0.objs.size + 1) = none := I.hok.fresh le
  have kk : ∀ b o, hp0.get? b = some o → ((hp0.push (PySem.W.kdv_tup [])).push (PySem.HandSPX.excO C hp0.objs.size)).get? b = some o := fun b o q => Heap.get?_push_of_some _ (Heap.get?_push_of_some _ q)
  have new : ((hp0.push (PySem.W.kdv_tup [])).push (PySem.HandSPX.excO C hp0.objs.size)).get? (hp0.objs.size + 1) = some (PySem.HandSPX.excO C hp0.objs.size) := by heap_get
  have J := I.laid (t' := tk) (a := hp0.objs.size + 1) (o := exo (hp0.objs.size + 1) C none) kk le (exo_ok new)
  refine wpAny_call (PySem.EVK.call_kw T.FB (fun Y => PySem.W.excTail_contains Y bm hbm) (I.kIn _ _ hC) (PySem.W.looks_findIn I.kIn iC) (fun self => PySem.W.bind_fn I.kIn self tI)
    (codeAny_mono (F1.run _ X.stack _ _ ⟨[.ref (hp0.objs.size + 1)], [(kn, u)]⟩ _ [V.ref (hp0.objs.size + 1), v] (fun w H2 => w = .non ∧ ∃ d, H d = none ∧ d ≠ hp0.objs.size + 1 ∧ H2 = upd (upd (upd H (hp0.objs.size + 1) (exo (hp0.objs.size + 1) C none)) d (exd d [(f, v)])) (hp0.objs.size + 1) (exo (hp0.objs.size + 1) C (some d))) (fun _ _ _ => False) (hr.make C [] [(kn, u)]) (J.env0.make C [] [(kn, u)]) (hb _ _ _) (.cons rfl (.cons rv .nil))
      ⟨_, v, rfl, T, hno, upd_same, fun dx h1 h2 => ⟨rfl, dx, by rw [upd_ne h2] at h1; exact h1, h2, rfl⟩⟩) fun r s2 hq' => ?_))
  cases r with
  | error er => exact hx pins σ _ _ er s2 J hq'
  | ok fl =>
    cases fl with
    | ret w =>
      obtain ⟨wv, H2, os2, bare2, un2, hok2, rw2, ⟨ew, d, hd, hne, eH⟩⟩ := hq'
      subst ew eH
      exact ⟨rw2, hq _ d s2 _ un2 le kk fr hd hne hok2 os2 bare2⟩
    | next => exact False.elim hq'
    | brk => exact False.elim hq'
    | cont => exact False.elim hq'
/-- raise C(k = e) -/
theorem pmk_errIK {CX : CXT} {k : Nat} {fI : Addr} {fd : FuncData} {ps : List Str} {te1 : TE} {kn : Str} (T : ErrN X x C fI f Bn newId initId bmB) (hg : Gl X x) (hdb : (x == ("__debug__" : Str)) = false) (F1 : FnOk X.prog X.w X.K X.mg X.base CX k fI fd ps (spI X.K Bn newId initId bmB C f)) (hr : Room (k + 1) X.A) (hb : BindK X.K fd ps kn) (hx : Passes CX X (fun _ _ _ => False))
    (ha : PE X e te1) (hall : (backToKw pos (keywordEach [⟨some kn, e, kpos⟩] X.env)).all (·.1.isSome) = true := by rfl) (hks : (backToKw pos (keywordEach [⟨some kn, e, kpos⟩] X.env)).filterMap (·.1) = [kn] := by rfl)
    (hpl : ((backTo pos (starEach [] X.env)).any (·.1) || (backToKw pos (keywordEach [⟨some kn, e, kpos⟩] X.env)).any (·.1.isNone)) = false := by rfl) :
    PMk X (.Call (.Name x p) [] [⟨some kn, e, kpos⟩] pos) (fun σ H Q => te1 σ H fun v H1 => ∀ d, H1 d = none → Q (.ref C) (some d) (upd H1 d (.xd [(f, v)]))) := by
  intro pins s σ H Q I hh
  refine wpAny_Call_Name_kw (ld_glob I hg T.g ?_ hdb)
  have hA := (pk_cons (nm := some kn) (kpos := kpos) ha pk_nil).run pos pins s σ H (pm1 fun v H1 => ∀ d, H1 d = none → Q (.ref C) (some d) (upd H1 d (.xd [(f, v)]))) I hh
  refine PySem.W.callWith_KW0 (h₀ := X.base) I.ok.mod.kin T.T.kC hall (thn hA fun us s1 ⟨vs, H1, I1, rv, qv⟩ => ⟨I1.kIn, ?_⟩) hpl
  rw [hks]
  unfold pm1 at qv
  split at qv
  · rename_i v
    obtain ⟨u, rfl, ru⟩ := Vals.one rv
    refine run_errIK T.T T.iC T.tI T.no F1 hr hb hx I1 ru fun ad dd s2 hp0 un hsz kk hn hd hne hok ho hbare => ?_
    obtain ⟨h2, g2, d2, t2, o2⟩ := s2
    obtain ⟨h1, g1, d1, t1, o1⟩ := s1
    refine mk_end (raises_own T.T.exC T.T.tyC) I1 hsz kk un hok ho hbare upd_same (by rw [upd_ne hne, upd_same]) hd ?_
    rw [hp_eq2 hn hne]
    exact qv dd hd
  · exact qv.elim
end
/-! ### such an __init__ -/
section
variable {P : Program} {w : World} {K : PySem.W.Frag} {mg : Str → Option Value} {base : Heap}
/-- def __init__(self, f): Base.__init__(self, f); self.f = f -/
theorem init_ok {qual f : Str} {st : PySem.Stmt} {fI : Addr} {fd : FuncData} {Bn newId initId : String} {bmB : List Value} {C : Addr} {k : Nat} {p1 p2 p3 p4 p5 p6 p7 p8 p9 : Pos} (F : Fun K "__init__" qual st fI fd) (S : FnScope ["self", f] ["self", f] (defScope st))
    (hbody : defBody st = [.Expr (.Call (.Attribute (.Name (Bn : Str) p1) "__init__" p2) [.Name "self" p3, .Name f p4] [] p5) p5, .Assign [.Attribute (.Name "self" p6) f p7] (.Name f p8) p9])
    (hB : ∀ X : Cx, X.K = K → X.mg = mg → X.env.scope = defScope st → BaseN X Bn initId) (hn : f ≠ "__debug__" ∧ f ≠ "__classdict__") {pl : Env → Sem Bool}
    (hc : ∀ env : Env, eval (.Call (.Attribute (.Name (Bn : Str) p1) "__init__" p2) [.Name "self" p3, .Name f p4] [] p5) env = (do
      let ov ← eval (.Name (Bn : Str) p1) env
      standAt p2.atName
      let (f', first) ← holding [ov] (getMethod ov "__init__" (pl env))
      callWith p5 f' first (backTo p5 (starEach [.Name "self" p3, .Name f p4] env)) (backToKw p5 (keywordEach [] env)))) :
    FnOk P w K mg base (L2.CX P w) (k + 1) fI fd ["self", f] (spI K Bn newId initId bmB C f) := by
  refine F.okX S (fun vs H Q E h => ?_) (fun cdv A outer s H vs Q E hr h => ?_)
  · obtain ⟨ad, v, rfl, _⟩ := h
    rfl
  obtain ⟨ad, v, rfl, hT, hno, hx, q⟩ := h
  rw [hbody]
  have vis0 : Vis (defScope st) "self" := by
    rcases S.par "self" (by simp) with z | z
    · exact .inl z
    · exact .inr (.inl z)
  have vis1 : Vis (defScope st) f := by
    rcases S.par f (by simp) with z | z
    · exact .inl z
    · exact .inr (.inl z)
  have d1 : (f == ("__debug__" : Str)) = false := beq_false_of_ne hn.1
  have d2 : (f == ("__classdict__" : Str)) = false := beq_false_of_ne hn.2
  refine ⟨_, pss_cons (ps_expr (pe_binit (newId := newId) (bmB := bmB) (hB _ rfl rfl rfl) (pa_cons (pe_var (i := 0) rfl vis0 (by decide) (by decide)) (pa_cons (pe_var (i := 1) rfl vis1 d1 d2) pa_nil)) (hc _))) (pss_one (ps_st1 (Bn := Bn) (newId := newId) (initId := initId) (bmB := bmB) (pe_var (i := 0) rfl vis0 (by decide) (by decide)) (pe_var (i := 1) rfl vis1 d1 d2))), ?_⟩
  exact ⟨_, rfl, _, rfl, ad, C, [v], rfl, by simp, hT, hx, _, rfl, _, rfl, ad, C, rfl, hT, hno, hx, fun dx h1 h2 => q dx h1 h2⟩
end
end EV

namespace EV
open L2 PySem PySem.Spec PyProof.Rows

/-! ### try with several clauses, with a name each -/
abbrev Cls1 := Value × Nat × (Addr → Value → Option Addr → TS)
/-- behind a suite its name is gone -/
def goneD (j : Nat) (D : Ends) : Ends := { nx := fun σ H => D.nx (σ.set j none) H, rt := D.rt, bk := fun σ H => D.bk (σ.set j none) H, ct := fun σ H => D.ct (σ.set j none) H }
def wishA (K : PySem.W.Frag) (W0 : WX) (D : Ends) : List Cls1 → WX
  | [] => W0
  | (c, j, ts) :: r => fun cls d σ H => ∃ b, PySem.W.exmOne K cls c = some b ∧ (b = true → ∀ ad, H ad = none → ts ad cls d (goneD j D) (σ.set j (some (.ref ad))) H) ∧ (b = false → wishA K W0 D r cls d σ H)
inductive ClsA (X : Cx) : List PySem.ExceptHandler → List Cls1 → Prop
  | nil : ClsA X [] []
  | cons {x nm : Str} {c : Value} {j : Nat} {ts : Addr → Value → Option Addr → TS} {s0 : PySem.Stmt} {su : List PySem.Stmt} {p0 p1 : Pos} {hs : List PySem.ExceptHandler} {l : List Cls1} (hc : Names X x c) (hj : X.N[j]? = some nm) (hl : X.env.kindOf nm = some .local)
      (run : ∀ (ad : Addr) (ob : Obj) (cls : Value) (d : Option Addr) (pn : List (Addr × Obj)), Zc cls d ob → (∃ vs, ob.data = .fields vs) → PSs (X.suite ad ((ad, ob) :: pn)) (s0 :: su) (ts ad cls d)) (r : ClsA X hs l) :
      ClsA X (.ExceptHandler (some (.Name x p0)) (some nm) (s0 :: su) p1 :: hs) ((c, j, ts) :: l)
section
variable {X : Cx} {body : List PySem.Stmt} {h0 : PySem.ExceptHandler} {hs : List PySem.ExceptHandler} {l : List Cls1} {pos : Pos} {tb : WX → TS} {W0 : WX}
theorem ps_tryA (hst : X.stack = X.env :: X.outer) (hfr : X.env.frame = some X.env.locals) (hN : X.N.Nodup) (tk : Takes X W0)
    (hb : ∀ (W : WX) (pn : List (Addr × Obj)) (xe : Value → Shared → Prop), Takes (X.tr pn xe) W → PassesOwn (model X.prog X.w) X.A X.env xe → PSs (X.tr pn xe) body (tb W))
    (hh : ClsA X (h0 :: hs) l) : PS X (.Try body (h0 :: hs) [] [] pos) (fun D σ H => tb (wishA X.K W0 D l) D σ H) := by
  refine ⟨fun pins s σ H D I want => ?_⟩
  have okX := I.ok
  have frames : X.A.frames = some (X.env :: X.outer) := by rw [okX.frames, hst]
  let xc : Value → Shared → Prop := fun e s₁ => wpAny (model X.prog X.w) X.A (noteFrame e X.env) (fun _ s₂ => wpAny (model X.prog X.w) X.A (setFlight e none) (fun _ s₃ => wpAny (model X.prog X.w) X.A (handleBy e X.env (h0 :: hs)) (SP X pins D) X.xe s₃) X.xe s₂) X.xe s₁
  have caught : Takes (X.tr (X.pn ++ pins) xc) (wishA X.K W0 D l) := by
    intro ev s' air
    obtain ⟨ad, G, s0, pins0, σ0, H0, cls, dd, rfl, J0, kept, slots, sky, ha, hos, hgen, wish⟩ := air
    have J : Inv X pins σ0 H0 s0 := J0.ofTry okX
    have sky1 : Sky G (X.env :: X.outer) ad (Zc cls dd) X.env.locals s'.heap := by
      rw [← hst]
      exact sky
    show wpAny (model X.prog X.w) X.A (noteFrame (.ref ad) X.env) _ _ _
    refine Sky.land Zc.steady frames hfr sky1 fun hA flA slA => ?_
    have JA : Inv X pins σ0 H0 { s' with heap := hA } := J.landed kept flA.1 (slots.trans slA) hos hgen
    obtain ⟨obA, fsA, atA, zA, dA⟩ := flA.there
    have off : ad ∉ frs (X.env :: X.outer) := fun hm => by
      obtain ⟨_, o2, e2, hnf⟩ := flA.2.2.1.mem hm
      rw [atA] at e2
      cases e2
      exact hnf _ dA
    have offL : ad ≠ X.env.locals := fun z => off (List.mem_filterMap.mpr ⟨X.env, List.mem_cons_self, by rw [hfr, z]⟩)
    have offF : ad ∉ X.fs := fun hm => by
      obtain ⟨e, he, q⟩ := List.mem_filterMap.mp hm
      exact off (List.mem_filterMap.mpr ⟨e, List.mem_cons_of_mem _ he, q⟩)
    have SA := JA.suite atA dA ha offL offF
    have go : ∀ {hs' : List PySem.ExceptHandler} {l' : List Cls1}, ClsA X hs' l' → wishA X.K W0 D l' cls dd σ0 H0 → wpAny (model X.prog X.w) X.A (handleBy (.ref ad) X.env hs') (SP X pins D) X.xe { s' with heap := hA } := by
      intro hs' l' hk
      induction hk with
      | nil =>
        intro wish0
        refine wpAny_handleBy_nil ?_
        obtain ⟨b1, b2, b3, ob, fv, tB, oB, tsB, atB, zB, dB, nB, rB⟩ := id flA
        have up : wpAny (model X.prog X.w) X.A (setFlight (.ref ad) X.env.frame) (fun _ s4 => wpAny (model X.prog X.w) X.A (throw (.ref ad) : Sem Flow) (SP X pins D) X.xe s4) X.xe { s' with heap := hA } := by
          rw [hfr]
          refine HandSPX.setFlight_upZ flA fun hB held slB => wpAny_throw (tk _ _ ?_)
          refine ⟨ad, G, s0, pins, σ0, H0, cls, dd, rfl, J, kept, (slots.trans slA).trans slB, .inr (.inr ?_), ha, hos, hgen, wish0⟩
          rw [hst]
          exact held
        unfold PySem.passOn
        refine wpAny_bind (wpAny_field atB dB nB ?_)
        have notNone : ¬ ((Value.ref tB == Value.none) = true) := by simp
        rw [if_neg notNone]
        first
          | exact wpAny_bind (wpAny_pure (wpAny_bind up))
          | exact wpAny_bind up
      | @cons x nm c j ts st0 su p0 p1 hs2 l2 hc hj hl run r ih =>
        rintro ⟨b, isb, yes, no⟩
        refine wpAny_handleBy_cons (codeAny_handlers_test ?_) (by intro q; cases q)
        have ofT : PySem.W.Looks (model X.prog X.w) hA (typeOf (.ref ad)) cls := fun A Q E s k q => wpAny_typeOf_ref (k _ _ atA) (by
          rw [zA.1]
          exact q)
        have matched := PySem.W.exm_one (M := model X.prog X.w) (JA.kIn) ofT isb
        have named : ∀ {Q : Value → Shared → Prop} {E : Value → Shared → Prop}, Q c { s' with heap := hA } → wpAny (model X.prog X.w) (X.A.mark (some (.ref ad))) (eval (.Name x p0) X.env) Q E { s' with heap := hA } := by
          intro Q E q
          rcases hc with ⟨n1, n2, n3 | ⟨n3, n4, n5⟩⟩
          · exact ld_glob (X := X.suite ad ((ad, obA) :: (X.pn ++ pins))) SA n1 n3 q n2
          · exact ld_blt (X := X.suite ad ((ad, obA) :: (X.pn ++ pins))) SA n1 n3 n4 q n5 n2
        refine named (matched.here ?_)
        cases b with
        | false =>
          show wpAny _ X.A (handleBy (.ref ad) X.env hs2) _ _ _
          exact ih (no rfl)
        | true =>
          refine codeAny_handlers_suite_as (HandSPX.lands_againZ flA fun hB flB slB => ?_)
          have JB : Inv X pins σ0 H0 { s' with heap := hB } := J.landed kept flB.1 ((slots.trans slA).trans slB) hos hgen
          obtain ⟨obB, fsB, atB, zB, dB⟩ := flB.there
          have SB := JB.suite atB dB ha offL offF
          refine store_ok (X := X.suite ad ((ad, obB) :: (X.pn ++ pins))) (v := .ref ad) SB hN hj (.inl hl) rfl (fun s5 S5 => ?_) (.inr hl)
          refine wpAny_mono ((run ad obB cls dd (X.pn ++ pins) zB ⟨_, dB⟩).run [] s5 _ H0 _ S5 (yes rfl ad ha)) (fun fl s6 out => ?_) (fun _ _ z => False.elim z)
          have last : ∀ {σ6 : L2.St} {H6 : Hp} {Q : Shared → Prop}, Inv (X.suite ad ((ad, obB) :: (X.pn ++ pins))) [] σ6 H6 s6 → (∀ s7, Inv X pins (σ6.set j none) H6 s7 → Q s7) →
              wpAny (model X.prog X.w) X.A (do bindName X.env nm .none; unbindBehindTheSuite X.env nm p1) (fun _ s7 => Q s7) X.xe s6 := fun S6 hq => gone_ok (S6.unsuite okX) hN hj hl hq
          cases fl with
          | next =>
            obtain ⟨σ6, H6, S6, q6⟩ := out
            exact last S6 fun s7 J7 => ⟨_, _, J7, q6⟩
          | brk =>
            obtain ⟨σ6, H6, S6, q6⟩ := out
            exact last S6 fun s7 J7 => ⟨_, _, J7, q6⟩
          | cont =>
            obtain ⟨σ6, H6, S6, q6⟩ := out
            exact last S6 fun s7 J7 => ⟨_, _, J7, q6⟩
          | ret u =>
            obtain ⟨v6, σ6, H6, S6, r6, q6⟩ := out
            exact last S6 fun s7 J7 => ⟨_, _, _, J7, r6, q6⟩
    exact go hh wish
  refine wpAny_Try_except (wpAny_mono ((hb (wishA X.K W0 D l) (X.pn ++ pins) xc caught PassesOwn.looking).run [] s σ H D (I.toTry _) want) (fun fl s1 out => ?_) fun e s1 z => z)
  cases fl with
  | next =>
    obtain ⟨σ1, H1, J1, q⟩ := out
    exact wpAny_execs_nil ⟨σ1, H1, J1.ofTry okX, q⟩
  | brk =>
    obtain ⟨σ1, H1, J1, q⟩ := out
    exact ⟨σ1, H1, J1.ofTry okX, q⟩
  | cont =>
    obtain ⟨σ1, H1, J1, q⟩ := out
    exact ⟨σ1, H1, J1.ofTry okX, q⟩
  | ret u =>
    obtain ⟨v, σ1, H1, J1, r, q⟩ := out
    exact ⟨v, σ1, H1, J1.ofTry okX, r, q⟩
end
end EV

namespace EV
open L2 PySem PySem.Spec PyProof.Rows

/-- an own error with a field, and its __init__ at every level -/
structure ErrF (X : Cx) (x f : Str) (C : Addr) : Prop where
  ex : ∃ (fI : Addr) (Bn newId initId : String) (bmB : List Value) (fd : FuncData), ErrN X x C fI f Bn newId initId bmB ∧ (∀ k, FnOk X.prog X.w X.K X.mg X.base (L2.CX X.prog X.w) (k + 1) fI fd ["self", f] (spI X.K Bn newId initId bmB C f)) ∧ Binds X.K fd ["self", f] [] ∧ BindK X.K fd ["self", f] f
  xf : XfC X.K C
  no : PySem.W.findIn X.K (.ref C) f = some none
  g : X.mg x = some (.ref C)
theorem ErrF.tr {X : Cx} {x f : Str} {C : Addr} (T : ErrF X x f C) (pn : List (Addr × Obj)) (xe : Value → Shared → Prop) : ErrF (X.tr pn xe) x f C := by
  obtain ⟨fI, Bn, ni, ii, bm, fd, hN, hF, hb, hk⟩ := T.ex
  exact ⟨⟨fI, Bn, ni, ii, bm, fd, ⟨hN.T, hN.iC, hN.tI, hN.no, hN.g, hN.ns⟩, hF, hb, hk⟩, T.xf, T.no, T.g⟩
theorem passN {X : Cx} : Passes (L2.CX X.prog X.w) X (fun _ _ _ => False) := fun _ _ _ _ _ _ _ c => by
  obtain ⟨_, _, _, _, _, _, _, _, _, _, _, _, z⟩ := c
  exact z.elim
section
variable {X : Cx} {x f : Str} {p pos kpos : Pos} {e : PySem.Expr} {te1 : TE} {C : Addr} {E : XK} {W : WX}
theorem s_raiseP (T : ErrF X x f C) (hg : Gl X x) (hdb : (x == ("__debug__" : Str)) = false) (hc : X.calm = true) (hr : Room 2 X.A) (tk : Takes X W) (ha : PE X e te1) (he : starEach [e] X.env = (false, eval e X.env) :: starEach [] X.env := by rfl) :
    PS X (.Raise (some (.Call (.Name x p) [e] [] pos)) none kpos) (fun _ σ H => te1 σ H fun v H1 => ∀ d, H1 d = none → W (.ref C) (some d) σ (upd H1 d (.xd [(f, v)]))) := by
  obtain ⟨fI, Bn, ni, ii, bm, fd, hN, hF, hb, hk⟩ := T.ex
  exact ps_raise hc tk (pmk_errI hN hg hdb (hF 0) rfl hr hb passN ha he)
theorem s_raiseK (T : ErrF X x f C) {kp2 : Pos} (hg : Gl X x) (hdb : (x == ("__debug__" : Str)) = false) (hc : X.calm = true) (hr : Room 2 X.A) (tk : Takes X W) (ha : PE X e te1) (hall : (backToKw pos (keywordEach [⟨some f, e, kp2⟩] X.env)).all (·.1.isSome) = true := by rfl) (hks : (backToKw pos (keywordEach [⟨some f, e, kp2⟩] X.env)).filterMap (·.1) = [f] := by rfl)
    (hpl : ((backTo pos (starEach [] X.env)).any (·.1) || (backToKw pos (keywordEach [⟨some f, e, kp2⟩] X.env)).any (·.1.isNone)) = false := by rfl) :
    PS X (.Raise (some (.Call (.Name x p) [] [⟨some f, e, kp2⟩] pos)) none kpos) (fun _ σ H => te1 σ H fun v H1 => ∀ d, H1 d = none → W (.ref C) (some d) σ (upd H1 d (.xd [(f, v)]))) := by
  obtain ⟨fI, Bn, ni, ii, bm, fd, hN, hF, hb, hk⟩ := T.ex
  exact ps_raise hc tk (pmk_errIK hN hg hdb (hF 0) hr hk passN ha hall hks hpl)
end
end EV

namespace EV
open L2 PySem PySem.Spec PyProof.Rows

section
variable {X : Cx} {B : List EV.Row} {Z : List (Str × GV)} {g : Cfg} {E : XK} {n : Nat} {N : List Str} {ns : Ns} {x f : Str} {p pos pt : Pos} {a e : PySem.Expr} {ma : ME}
theorem isEo' (C : Ct X B Z g E n N ns) (tb : List (Str × Bool)) {t : Str} (h1 : glB' ns "isinstance" = true) (z1 : Z.lookup ("isinstance" : Str) = some GV.bi) (h2 : glB' ns t = true) (hF : ∃ c, X.mg t = some (.ref c) ∧ IsF X.K (.ref c) tb) (ha : PE X a (te g E ma))
    (he : starEach [a, .Name t pt] X.env = (false, eval a X.env) :: starEach [.Name t pt] X.env := by rfl) : PE X (.Call (.Name "isinstance" p) [a, .Name t pt] [] pos) (te g E (mUn (tbF tb) ma)) := by
  obtain ⟨c, hm, hf⟩ := hF
  exact isEo C tb h1 z1 h2 hm hf ha he
theorem e_err0' (C : Ct X B Z g E n N ns) (T : ∃ c, ErrC X x c) (h : glB' ns x = true) : PE X (.Call (.Name x p) [] [] pos) (te g E (mExo x)) := by
  obtain ⟨c, T⟩ := T
  exact e_err0 C T h
theorem e_errI' (C : Ct X B Z g E (n + 2) N ns) (f : Str) (T : ∃ c, ErrF X x f c) (h : glB' ns x = true) (ha : PE X e (te g E ma)) (he : starEach [e] X.env = (false, eval e X.env) :: starEach [] X.env := by rfl) : PE X (.Call (.Name x p) [e] [] pos) (te g E (mUn (fExo x) ma)) := by
  obtain ⟨c, T⟩ := T
  obtain ⟨fI, Bn, ni, ii, bm, fd, hN, hF, hb, hk⟩ := T.ex
  exact e_errI C hN h (hF 0) rfl (C.room.mono (by omega)) hb passN ha he
end

/-! ### a law that reads the script: its own call -/
/-- the empty store stands for every heap -/
theorem RS.none {K : PySem.W.Frag} {H : Hp} : RS K [] H [] ⟨0, []⟩ := ⟨fun P hP => absurd hP (by simp), rfl, rfl, List.nodup_nil, fun q c a e => by simp [S.get] at e⟩
theorem RE.none {K : PySem.W.Frag} {H : Hp} {σ : L2.St} {k : Nat} (h : k = σ.length) : RE K H [] (List.replicate k none) σ := ⟨by simpa using h, fun i d e => by
  rw [List.getElem?_replicate] at e
  split at e <;> cases e⟩
/-- forget all but some slots -/
theorem RE.less {K : PySem.W.Frag} {H : Hp} {ι : List Addr} {e e' : En} {σ : L2.St} (h : RE K H ι e σ) (hl : e'.length = e.length) (hs : ∀ (i : Nat) (d : D), e'[i]? = some (some d) → e[i]? = some (some d)) : RE K H ι e' σ := ⟨hl.trans h.1, fun i d q => h.2 i d (hs i d q)⟩
def spScript (K : PySem.W.Frag) : Sp := fun vs H Q _ => ∃ (a : Addr) (ks : List Int), vs = [.ref a] ∧ SqL K H a (ks.map V.int) ∧ ks.length ≤ 63 ∧ ∀ H', Q (.bl true) H'
theorem law_fn {P : Program} {w : World} {K : PySem.W.Frag} {mg : Str → Option Value} {base : Heap} {B : List EV.Row} {Z : List (Str × GV)} {RX : PySem.W.Frag → List Addr → Hp → List Addr → Ex → Value → Option Addr → Prop} {PX : Cx → Prop}
    (hB : ∀ r ∈ B, RowOk B Z RX PX r) (hfn : ∀ (i : Nat) (r : EV.Row), B[i]? = some r → ∃ f fd, mg r.x = some (.ref f) ∧ Fun K r.x r.x r.st f fd)
    (hPX : ∀ X : Cx, X.K = K → X.mg = mg → X.prog = P → X.w = w → X.base = base → PX X)
    (hZ : ∀ x v, Z.lookup x = some v → match v with
      | .fn i => ∀ r : EV.Row, B[i]? = some r → r.x = x
      | .bi => mg x = none
      | .mf id => mg x = some (.builtin id)
      | .cst d => ∃ v u, mg x = some u ∧ RelV v u ∧ ∀ H ι, RV K H ι d v
      | .exc _ => True)
    {x : Str} {st : PySem.Stmt} {N : List Str} {n : Nat} (S : FnScope N ["script"] (defScope st)) {f : Addr} {fd : FuncData} (F : Fun K x x st f fd)
    (hbody : ∀ {X : Cx}, X.K = K → PX X → Ct X B Z (cfg K [] (RX K []) B n) E0 (n + 2) N (defScope st).names → ∃ t, PSs X (defBody st) t ∧ ∀ (a : Addr) (ks : List Int) (σ : L2.St) (H : Hp) (D : Ends), σ.length = N.length → σ[0]? = some (some (.ref a)) → SqL K H a (ks.map V.int) → ks.length ≤ 63 → (∀ H', D.rt (.bl true) H') → t D σ H) :
    FnOk P w K mg base (L2.CX P w) (n + 3) f fd ["script"] (fun vs H Q E => spScript K vs H Q E ∧ E = E0) := by
  have ih := fn_ok (P := P) (w := w) (base := base) (T := []) hB hfn hPX hZ n
  refine F.okX S (fun vs H Q E h => ?_) (fun cdv A outer s H vs Q E hroom h => ?_)
  · obtain ⟨⟨a, ks, rfl, _⟩, _⟩ := h
    rfl
  · obtain ⟨⟨a, ks, rfl, hS, hk, hQ⟩, rfl⟩ := h
    obtain ⟨t, h1, h2⟩ := hbody (X := cxOf (L2.CX P w) P w K mg base N x (defScope st) f cdv A outer s H E0) rfl (hPX _ rfl rfl rfl rfl rfl) ⟨⟨rfl, rfl, by
        have := hroom.un
        show (A.deeper _).units + 200 < cLine
        omega, takes_of rfl rfl rfl rfl, passes_of rfl⟩, rfl, S.nd, hroom, fun x h => h, fun x h => h, fun x h => .inl h, fun x h => h, fun x h => rfl, S.kind, fun x v hz => by
        have z := hZ x v hz
        cases v with
        | fn j =>
          intro r' hr'
          have e := z r' hr'
          subst e
          obtain ⟨f', fd', k1, k2⟩ := hfn j r' hr'
          exact ⟨rfl, f', fd', k1, k2, ih j r' hr' f' fd' k1 k2⟩
        | bi => exact z
        | mf id => exact z
        | cst d => exact z
        | exc c => exact z⟩
    have hN : N.length ≥ 1 := by
      have := congrArg List.length S.pre
      rw [List.length_take] at this
      simp at this
      omega
    exact ⟨t, h1, h2 a ks _ H _ (by simp [L2.start]; omega) rfl hS hk hQ⟩
end EV

namespace EV
open L2 PySem PySem.Spec PyProof.Rows

/-- the written part's words on an own error with an __init__ -/
structure ErrAt (K : PySem.W.Frag) (x f qual : Str) (Bn newId initId : String) (bmB : List Value) (st : PySem.Stmt) (C fI : Addr) : Prop where
  ns : PySem.W.nsIn K mainGlobals x = some (some (.ref C))
  cls : ∃ nm q M bs bm sn sub ab col dd k0 k1 k2 k3 k5, K.lookup C = some (excClassObj nm q C M bs bm true sn sub ab col dd k0 k1 k2 k3 k5 newId) ∧ PySem.W.excTail bmB bm = true
  sa : PySem.W.findIn K (.ref C) "__setattr__" = some (some (.builtin "object.__setattr__"))
  exC : PySem.W.subIn K (.ref C) (.type "BaseException") = some true
  tyC : PySem.W.typeIn K (.ref C) = some (.type "type")
  kC : PySem.W.keepIn K (.ref C) = true
  iC : PySem.W.findIn K (.ref C) "__init__" = some (some (.ref fI))
  tI : PySem.W.typeIn K (.ref fI) = some (.type "function")
  no : PySem.W.findIn K (.ref C) f = some none
  ga : PySem.W.findIn K (.ref C) "__getattribute__" = some (some (.builtin "BaseException.__getattribute__"))
  gg : PySem.W.findIn K (.ref C) "__getattr__" = some none
  hd : PySem.W.hasDictIn K C = true
  fn : ∃ (oc : Value) (od : Option Addr) (kV doc pm : Value) (an : Option Addr) (cdv ct : Value) (osl : Array (Option Value)),
    K.lookup fI = some ⟨oc, od, .func (PySem.W.fnOf "__init__" qual (defArgs st) (defBody st) (defScope st) .none kV doc pm an cdv ct), osl⟩ ∧ PySem.W.codeIn K cdv qual = true
  kI : PySem.W.keepIn K (.ref fI) = true
  base : PySem.W.nsIn K mainGlobals (Bn : Str) = some none
  find : PySem.W.findCls K (.type Bn) (.type "type") "__init__" = some (.val (.builtin initId))
theorem errF_of {X : Cx} {K : PySem.W.Frag} {h : Heap} {mg : Str → Option Value} {x f qual : Str} {Bn newId initId : String} {bmB : List Value} {st : PySem.Stmt} {C fI : Addr} {p1 p2 p3 p4 p5 p6 p7 p8 p9 : Pos} (KX : K.In h) (G : h.Ns mainGlobals mg) (hK : X.K = K) (hm : X.mg = mg) (A : ErrAt K x f qual Bn newId initId bmB st C fI)
    (FB : ExcBaseFacts Bn newId initId bmB) (SF : StoreFacts Bn bmB "object.__setattr__" "object") (S : FnScope ["self", f] ["self", f] (defScope st))
    (hbody : defBody st = [.Expr (.Call (.Attribute (.Name (Bn : Str) p1) "__init__" p2) [.Name "self" p3, .Name f p4] [] p5) p5, .Assign [.Attribute (.Name "self" p6) f p7] (.Name f p8) p9])
    (hgl : (defScope st).names.lookup (Bn : Str) = some .globalImplicit) (boot : bootBuiltins (Bn : Str) = some (.type Bn)) (typ : typeOf (.type Bn) = pure (.type "type")) (stub : Manifest.isStub Bn = false) (hand : PySem.W.handedIn (.builtin initId) = true) (nn : (Bn : Str) ≠ "__name__") (nd : ((Bn : Str) == ("__debug__" : Str)) = false)
    (hn : f ≠ "__debug__" ∧ f ≠ "__classdict__") {pl : Env → Sem Bool}
    (hc : ∀ env : Env, eval (.Call (.Attribute (.Name (Bn : Str) p1) "__init__" p2) [.Name "self" p3, .Name f p4] [] p5) env = (do
      let ov ← eval (.Name (Bn : Str) p1) env
      standAt p2.atName
      let (f', first) ← holding [ov] (getMethod ov "__init__" (pl env))
      callWith p5 f' first (backTo p5 (starEach [.Name "self" p3, .Name f p4] env)) (backToKw p5 (keywordEach [] env))))
    (hb : ∀ {fd : FuncData}, Fun K "__init__" qual st fI fd → Binds K fd ["self", f] [] ∧ BindK K fd ["self", f] f) : ErrF X x f C := by
  subst hK hm
  obtain ⟨oc, od, kV, doc, pm, an, cdv, ct, osl, lk, hcd⟩ := A.fn
  have F : Fun X.K "__init__" qual st fI _ := ⟨⟨oc, od, kV, doc, pm, an, cdv, ct, osl, rfl, lk, hcd⟩, A.kI⟩
  have T : ErrI X.K C Bn newId initId bmB := ⟨FB, SF, A.cls, A.sa, A.exC, A.tyC, A.kC⟩
  have hg : X.mg x = some (.ref C) := PySem.W.mg_of KX G A.ns
  have hbase : X.mg (Bn : Str) = none := PySem.W.mg_none_of KX G A.base
  exact ⟨⟨fI, Bn, newId, initId, bmB, _, ⟨T, A.iC, A.tI, A.no, hg, A.ns⟩, fun k => init_ok F S hbody (fun Y y1 y2 y3 => ⟨by
      show Y.env.scope.names.lookup _ = _
      rw [y3]
      exact hgl, by rw [y2]; exact hbase, boot, typ, stub, by rw [y1]; exact A.find, hand, nn, nd⟩) hn hc, (hb F).1, (hb F).2⟩, ⟨A.ga, A.gg, A.exC, A.hd⟩, A.no, hg⟩
/-- the end of a law that reads its script -/
theorem end_script {l : PySem.W.OpenLaw} {q : Program} {loose : List Str} {XP : (Str → Option Value) → Heap → Prop} {YP : World → Heap → Prop} {d : DefRec} {K : Params → PySem.W.Frag} {B : List EV.Row} {Z : List (Str × GV)} {RX : PySem.W.Frag → List Addr → Hp → List Addr → Ex → Value → Option Addr → Prop} {PX : Cx → Prop} {x : Str} {st : PySem.Stmt} {N : List Str} {n : Nat}
    (hn : l.most = some 63) (hdf : d.params.defaults = []) (hY : ∀ (w : World) (h : Heap), YP w h → (K w.params).In h) (hd : d.name = x) (hnn : n ≤ 100)
    (hB : ∀ r ∈ B, RowOk B Z RX PX r) (S : FnScope N ["script"] (defScope st))
    (hbody : ∀ (w : World) {X : Cx}, X.K = K w.params → PX X → Ct X B Z (cfg (K w.params) [] (RX (K w.params) []) B n) L2.E0 (n + 2) N (defScope st).names → ∃ t, PSs X (defBody st) t ∧ ∀ (a : Addr) (ks : List Int) (σ : L2.St) (H : Hp) (D : Ends), σ.length = N.length → σ[0]? = some (some (.ref a)) → SqL (K w.params) H a (ks.map V.int) → ks.length ≤ 63 → (∀ H', D.rt (.bl true) H') → t D σ H)
    (hb : ∀ {K : PySem.W.Frag} {f : Addr} {fd : FuncData}, Fun K x x st f fd → ∀ (s : Shared) (u : Value), BindsTo s fd ⟨[u], []⟩ [(("script" : Str), u)])
    (hfun : ∀ w : World, AllB (fun r => FunAt (K w.params) r.x r.st) B) (hlaw : ∀ w : World, FunAt (K w.params) x st) (hz : ∀ w : World, AllZ (GvAt (K w.params) B) Z)
    (hPX : ∀ (w : World) (h : Heap) (mg : Str → Option Value), (K w.params).In h → h.Ns mainGlobals mg → ∀ X : Cx, X.K = K w.params → X.mg = mg → PX X) :
    PySem.W.WalkO q loose XP YP l.row.toRowW d [] (fun f vs => PySem.call f vs) := by
  have hroom : Room (n + 3) callerA := by
    have h0 : Room 103 callerA := by constructor <;> decide
    exact h0.mono (by omega)
  refine L2.walk_of (n := 63) (k := n + 3) (x := ("script" : Str)) (CX := fun w => L2.CX l.prog w) (sp := fun w vs H Q E => spScript (K w.params) vs H Q E ∧ E = L2.E0) hn (by decide) hdf hroom hY (fun w mg fa h KX G hmg => ?_) (fun _ _ a ns hl _ hS => ⟨⟨a, ns, rfl, hS, hl, fun _ => rfl⟩, rfl⟩) fun w H s e s' z => ?_
  · have hfn : ∀ (i : Nat) (r : EV.Row), B[i]? = some r → ∃ f fd, mg r.x = some (.ref f) ∧ Fun (K w.params) r.x r.x r.st f fd := fun i r e => (AllB.get (hfun w) r (List.mem_of_getElem? e)).fun KX G
    obtain ⟨f, fd, hm, F⟩ := (hlaw w).fun KX G
    rw [hd, hm] at hmg
    cases hmg
    exact ⟨fd, fun s u => hb F s u, fun base hK hN => law_fn (P := l.prog) (w := w) (base := base) hB hfn (fun X h1 h2 _ _ _ => hPX w h mg KX G X h1 h2) (zOk KX G (AllZ.get (hz w))) S F (fun h1 h2 h3 => hbody w h1 h2 h3)⟩
  · obtain ⟨_, _, _, _, _, _, _, _, _, _, _, _, z⟩ := z
    exact z
end EV

namespace EVX
open L2 PySem PySem.Spec PyProof.Rows EV
abbrev tp (i : Nat) : PySem.Stmt := PySem.Challenge.pw_everysource_k00_errors.main.body.getD i (.Pass ⟨0, 0, 0, 0⟩)
def tb_BadLine : List (Str × Bool) := [(("NoPlace" : Str), false), (("NothingDone" : Str), false), (("BadLine" : Str), true), (("CanNot" : Str), false), (("TooMuch" : Str), false), (("Unfit" : Str), false)]
def tb_CanNot : List (Str × Bool) := [(("NoPlace" : Str), false), (("NothingDone" : Str), false), (("BadLine" : Str), false), (("CanNot" : Str), true), (("TooMuch" : Str), false), (("Unfit" : Str), false)]
def tb_IndexError : List (Str × Bool) := [(("NoPlace" : Str), false), (("NothingDone" : Str), false), (("BadLine" : Str), false), (("CanNot" : Str), false), (("TooMuch" : Str), false), (("Unfit" : Str), false)]
def tb_KeyError : List (Str × Bool) := [(("NoPlace" : Str), false), (("NothingDone" : Str), false), (("BadLine" : Str), false), (("CanNot" : Str), false), (("TooMuch" : Str), false), (("Unfit" : Str), false)]
def tb_LookupError : List (Str × Bool) := [(("NoPlace" : Str), true), (("NothingDone" : Str), true), (("BadLine" : Str), false), (("CanNot" : Str), false), (("TooMuch" : Str), false), (("Unfit" : Str), false)]
def tb_NoPlace : List (Str × Bool) := [(("NoPlace" : Str), true), (("NothingDone" : Str), false), (("BadLine" : Str), false), (("CanNot" : Str), false), (("TooMuch" : Str), false), (("Unfit" : Str), false)]
def tb_NothingDone : List (Str × Bool) := [(("NoPlace" : Str), false), (("NothingDone" : Str), true), (("BadLine" : Str), false), (("CanNot" : Str), false), (("TooMuch" : Str), false), (("Unfit" : Str), false)]
def tb_TooMuch : List (Str × Bool) := [(("NoPlace" : Str), false), (("NothingDone" : Str), false), (("BadLine" : Str), false), (("CanNot" : Str), false), (("TooMuch" : Str), true), (("Unfit" : Str), false)]
def tb_Unfit : List (Str × Bool) := [(("NoPlace" : Str), false), (("NothingDone" : Str), false), (("BadLine" : Str), false), (("CanNot" : Str), false), (("TooMuch" : Str), false), (("Unfit" : Str), true)]
def tb_ValueError : List (Str × Bool) := [(("NoPlace" : Str), false), (("NothingDone" : Str), false), (("BadLine" : Str), true), (("CanNot" : Str), true), (("TooMuch" : Str), true), (("Unfit" : Str), true)]
structure Px (X : Cx) : Prop where
  np : ∃ C C', ErrF X "NoPlace" "place" C ∧ ErrF X "BadLine" "line" C' ∧ PySem.W.exmOne X.K (.ref C) (.ref C) = some true ∧ PySem.W.exmOne X.K (.ref C') (.ref C) = some false ∧ PySem.W.exmOne X.K (.ref C') (.ref C') = some true
  f_NoPlace : ∃ c, ErrF X "NoPlace" "place" c
  z_NothingDone : ∃ c, ErrC X "NothingDone" c
  f_BadLine : ∃ c, ErrF X "BadLine" "line" c
  z_CanNot : ∃ c, ErrC X "CanNot" c
  z_TooMuch : ∃ c, ErrC X "TooMuch" c
  z_Unfit : ∃ c, ErrC X "Unfit" c
  b_IndexError : IsF X.K (.type "IndexError") tb_IndexError
  b_KeyError : IsF X.K (.type "KeyError") tb_KeyError
  b_LookupError : IsF X.K (.type "LookupError") tb_LookupError
  b_ValueError : IsF X.K (.type "ValueError") tb_ValueError
  o_BadLine : ∃ c, X.mg "BadLine" = some (.ref c) ∧ IsF X.K (.ref c) tb_BadLine
  o_CanNot : ∃ c, X.mg "CanNot" = some (.ref c) ∧ IsF X.K (.ref c) tb_CanNot
  o_NoPlace : ∃ c, X.mg "NoPlace" = some (.ref c) ∧ IsF X.K (.ref c) tb_NoPlace
  o_NothingDone : ∃ c, X.mg "NothingDone" = some (.ref c) ∧ IsF X.K (.ref c) tb_NothingDone
  o_TooMuch : ∃ c, X.mg "TooMuch" = some (.ref c) ∧ IsF X.K (.ref c) tb_TooMuch
  o_Unfit : ∃ c, X.mg "Unfit" = some (.ref c) ∧ IsF X.K (.ref c) tb_Unfit
abbrev Tp (X : Cx) : Prop := X.stack = X.env :: X.outer ∧ X.env.frame = some X.env.locals
abbrev s__law_same : PySem.Stmt := tp 8
def N__law_same : List Str := ["got", "goal", "mine_so", "own"]
def m__law_same : MS := (sSeq (sIf (tTru (mIsi [4, 3] (mVar 1))) (sSeq (sIf (tOrM (tBl (mOp (dEq true) (mIsi [4] (mVar 0)) (mIsi [4] (mVar 1)))) (tBl (mOp (dEq true) (mIsi [3] (mVar 0)) (mIsi [3] (mVar 1))))) (sRet (mC (.bl false))) sNil) (sRet (mAnd (mOp (dEq false) (mCall bLen (mCons (mVar 0) mNil)) (mCall bLen (mCons (mVar 1) mNil))) (mCall bAll (mCons (mLc (iArgs zipS (mCons (mVar 0) (mCons (mVar 1) mNil))) (gTp 2 (gsCons (gNm 2) (gsCons (gNm 3) gsNil))) tYesM (mFn 0 (mCons (mVar 2) (mCons (mVar 3) mNil))) [2, 3]) mNil))))) sNil) (sSeq (sIf (tOrM (tBl (mOp dIs (mVar 1) (mC .non))) (tTru (mIsi [1, 2] (mVar 1)))) (sRet (mAnd (mOp (dEq false) (mVar 0) (mVar 1)) (mAnd (mOp (dEq false) (mIsi [1] (mVar 0)) (mIsi [1] (mVar 1))) (mOp (dEq false) (mOp dIs (mVar 0) (mC .non)) (mOp dIs (mVar 1) (mC .non)))))) sNil) (sRet (mAnd (mIsi [0] (mVar 0)) (mAnd (mNot (mIsi [1] (mVar 0))) (mOp (dEq false) (mVar 0) (mVar 1)))))))
def r__law_same : EV.Row := ⟨"_law_same", s__law_same, ["got", "goal"], N__law_same, m__law_same⟩
theorem b__law_same {K : PySem.W.Frag} {f : Addr} {fd : FuncData} (F : Fun K "_law_same" "_law_same" s__law_same f fd) : Binds K fd ["got", "goal"] [] := F.binds fun _ _ _ _ _ _ us hl => match us, hl with | [_, _], _ => rfl
abbrev s__law_caught : PySem.Stmt := tp 9
def N__law_caught : List Str := ["way_so", "worth", "error"]
def told (t : String) (d : D) (s : S) : R Fl := (newL [.str t, d] s).bind fun r s1 => .ok (.rt r) s1
def m__law_caught : MS := fun _ e s => match e with
  | [some (.int w), some d, _] => if w = 0 ∨ w = 2 then told "place" d s else told "line" d s
  | _ => .no

def r__law_caught : EV.Row := ⟨"_law_caught", s__law_caught, ["way_so", "worth"], N__law_caught, m__law_caught⟩
theorem b__law_caught {K : PySem.W.Frag} {f : Addr} {fd : FuncData} (F : Fun K "_law_caught" "_law_caught" s__law_caught f fd) : Binds K fd ["way_so", "worth"] [] := F.binds fun _ _ _ _ _ _ us hl => match us, hl with | [_, _], _ => rfl
abbrev s__law_plain : PySem.Stmt := tp 10
def N__law_plain : List Str := ["error"]
def m__law_plain : MS := (sRet (mLst (mCons (mUn (tbF tb_LookupError) (mVar 0)) (mCons (mUn (tbF tb_ValueError) (mVar 0)) (mCons (mUn (tbF tb_KeyError) (mVar 0)) (mCons (mUn (tbF tb_IndexError) (mVar 0)) mNil))))))
def r__law_plain : EV.Row := ⟨"_law_plain", s__law_plain, ["error"], N__law_plain, m__law_plain⟩
theorem b__law_plain {K : PySem.W.Frag} {f : Addr} {fd : FuncData} (F : Fun K "_law_plain" "_law_plain" s__law_plain f fd) : Binds K fd ["error"] [] := F.binds fun _ _ _ _ _ _ us hl => match us, hl with | [_], _ => rfl
abbrev s__law_kinds : PySem.Stmt := tp 11
def N__law_kinds : List Str := ["error"]
def m__law_kinds : MS := (sRet (mLst (mCons (mUn (tbF tb_NoPlace) (mVar 0)) (mCons (mUn (tbF tb_NothingDone) (mVar 0)) (mCons (mUn (tbF tb_BadLine) (mVar 0)) (mCons (mUn (tbF tb_CanNot) (mVar 0)) (mCons (mUn (tbF tb_TooMuch) (mVar 0)) (mCons (mUn (tbF tb_Unfit) (mVar 0)) mNil))))))))
def r__law_kinds : EV.Row := ⟨"_law_kinds", s__law_kinds, ["error"], N__law_kinds, m__law_kinds⟩
theorem b__law_kinds {K : PySem.W.Frag} {f : Addr} {fd : FuncData} (F : Fun K "_law_kinds" "_law_kinds" s__law_kinds f fd) : Binds K fd ["error"] [] := F.binds fun _ _ _ _ _ _ us hl => match us, hl with | [_], _ => rfl
abbrev s__law_by_hand_right : PySem.Stmt := tp 12
def N__law_by_hand_right : List Str := ["made_so", "told", "due", "own", "k", "far"]
def m__law_by_hand_right : MS := (sSeq (sAsg (mLst (mCons (mUn (fExo "NoPlace") (mC (.int 7))) (mCons (mExo "NothingDone") (mCons (mUn (fExo "BadLine") (mC (.int 7))) (mCons (mExo "CanNot") (mCons (mExo "TooMuch") (mCons (mExo "Unfit") mNil))))))) (gNm 0)) (sSeq (sAsg (mLc (iSeq' (mVar 0)) (gNm 3) tYesM (mFn 2 (mCons (mVar 3) mNil)) [3]) (gNm 1)) (sSeq (sAsg (mOp dAdd (mOp dMul (mLst (mCons (mLst (mCons (mC (.bl true)) (mCons (mC (.bl false)) (mCons (mC (.bl false)) (mCons (mC (.bl false)) mNil))))) mNil)) (mC (.int 2))) (mOp dMul (mLst (mCons (mLst (mCons (mC (.bl false)) (mCons (mC (.bl true)) (mCons (mC (.bl false)) (mCons (mC (.bl false)) mNil))))) mNil)) (mC (.int 4)))) (gNm 2)) (sSeq (sAsg (mOp dAdd (mVar 1) (mLc (iSeq' (mVar 0)) (gNm 3) tYesM (mFn 3 (mCons (mVar 3) mNil)) [3])) (gNm 1)) (sSeq (sAsg (mOp dAdd (mVar 2) (mLc (iArgs rng1 (mCons (mC (.int 6)) mNil)) (gNm 4) tYesM (mLc (iArgs rng1 (mCons (mC (.int 6)) mNil)) (gNm 5) tYesM (mOp (dEq false) (mVar 4) (mVar 5)) [5]) [4])) (gNm 2)) (sRet (mFn 0 (mCons (mVar 1) (mCons (mVar 2) mNil)))))))))
def r__law_by_hand_right : EV.Row := ⟨"_law_by_hand_right", s__law_by_hand_right, [], N__law_by_hand_right, m__law_by_hand_right⟩
theorem b__law_by_hand_right {K : PySem.W.Frag} {f : Addr} {fd : FuncData} (F : Fun K "_law_by_hand_right" "_law_by_hand_right" s__law_by_hand_right f fd) : Binds K fd [] [] := F.binds fun _ _ _ _ _ _ us hl => match us, hl with | [], _ => rfl
abbrev s_law : PySem.Stmt := tp 13
def N_law : List Str := ["script", "cell", "place_so", "line_so", "told"]
def m_law : MS := (sSeq (sIf (tNotM (tTru (mFn 4 mNil))) (sRet (mC (.bl false))) sNil) (sSeq (sFor (iSeq' (mOp dAdd (mCall bList (mCons (mSl (mVar 0) oNone (oSome (mC (.int 8)))) mNil)) (mLst (mCons (mC (.int 0)) (mCons (mC (.int 1)) (mCons (mC (.int 999)) mNil)))))) (gNm 1) (sSeq (sAsg (mOp (intOpC modOk fun i j => .int (i.fmod j)) (mCall bInt (mCons (mCall bAbs (mCons (mVar 1) mNil)) mNil)) (mC (.int 1000))) (gNm 2)) (sSeq (sAsg (mOp dAdd (mVar 2) (mC (.int 1))) (gNm 3)) (sSeq (sAsg (mLst (mCons (mFn 1 (mCons (mC (.int 0)) (mCons (mVar 2) mNil))) (mCons (mFn 1 (mCons (mC (.int 1)) (mCons (mVar 3) mNil))) (mCons (mFn 1 (mCons (mC (.int 2)) (mCons (mVar 2) mNil))) (mCons (mFn 1 (mCons (mC (.int 3)) (mCons (mVar 3) mNil))) mNil))))) (gNm 4)) (sIf (tNotM (tTru (mFn 0 (mCons (mVar 4) (mCons (mOp dMul (mLst (mCons (mLst (mCons (mC (.str "place")) (mCons (mVar 2) mNil))) (mCons (mLst (mCons (mC (.str "line")) (mCons (mVar 3) mNil))) mNil))) (mC (.int 2))) mNil))))) (sRet (mC (.bl false))) sNil))))) (sRet (mC (.bl true)))))
def B : List EV.Row := [r__law_same, r__law_caught, r__law_plain, r__law_kinds, r__law_by_hand_right]
def Z : List (Str × GV) := [(("_law_same" : Str), GV.fn 0), (("_law_caught" : Str), GV.fn 1), (("_law_plain" : Str), GV.fn 2), (("_law_kinds" : Str), GV.fn 3), (("_law_by_hand_right" : Str), GV.fn 4), (("IndexError" : Str), GV.bi), (("KeyError" : Str), GV.bi), (("LookupError" : Str), GV.bi), (("ValueError" : Str), GV.bi), (("abs" : Str), GV.bi), (("all" : Str), GV.bi), (("bool" : Str), GV.bi), (("int" : Str), GV.bi), (("isinstance" : Str), GV.bi), (("len" : Str), GV.bi), (("list" : Str), GV.bi), (("range" : Str), GV.bi), (("str" : Str), GV.bi), (("tuple" : Str), GV.bi), (("zip" : Str), GV.bi)]
abbrev RX0 : PySem.W.Frag → List Addr → Hp → List Addr → Ex → Value → Option Addr → Prop := fun _ _ _ _ _ _ _ => False
theorem ok__law_same {X : Cx} {g : Cfg} {E : XK} {n : Nat} (P : Px X) (tp : Tp X) (C : Ct X B Z g E (n + 2) N__law_same (defScope s__law_same).names) : PSs X (defBody s__law_same) (ts g E m__law_same) :=
  (s_cons (s_if (t_tru C.at_ (isi2 C 4 3 (by kernel_rfl) (by kernel_rfl) (by kernel_rfl) (by decide) (by kernel_rfl) (by kernel_rfl) (by kernel_rfl) (by decide) (by kernel_rfl) (by kernel_rfl) (v_ C 1 (by kernel_rfl))) (fun _ => rfl)) (s_cons (s_if (PW.pt (t_or (t_cmp (o_ne C.at_) (isi1 C 4 (by kernel_rfl) (by kernel_rfl) (by kernel_rfl) (by decide) (by kernel_rfl) (by kernel_rfl) (v_ C 0 (by kernel_rfl))) (isi1 C 4 (by kernel_rfl) (by kernel_rfl) (by kernel_rfl) (by decide) (by kernel_rfl) (by kernel_rfl) (v_ C 1 (by kernel_rfl))) rfl) (t_or1 (t_cmp (o_ne C.at_) (isi1 C 3 (by kernel_rfl) (by kernel_rfl) (by kernel_rfl) (by decide) (by kernel_rfl) (by kernel_rfl) (v_ C 0 (by kernel_rfl))) (isi1 C 3 (by kernel_rfl) (by kernel_rfl) (by kernel_rfl) (by decide) (by kernel_rfl) (by kernel_rfl) (v_ C 1 (by kernel_rfl))) rfl)))) (s_one (s_ret (b_ false))) s_nil) (s_one (s_ret (e_and C.at_ (e_cmp (o_eq C.at_) (bi_ C (c_len C.at_) (by kernel_rfl) (by kernel_rfl) (by kernel_rfl) (a_cons (v_ C 0 (by kernel_rfl)) a_nil rfl)) (bi_ C (c_len C.at_) (by kernel_rfl) (by kernel_rfl) (by kernel_rfl) (a_cons (v_ C 1 (by kernel_rfl)) a_nil rfl)) rfl) (e_one (bi_ C (c_all C.at_) (by kernel_rfl) (by kernel_rfl) (by kernel_rfl) (a_cons (lc_ C [(("mine_so" : Str), 2), (("own" : Str), 3)] (by kernel_rfl) (i_zip C.at_ (C.glob (by kernel_rfl)) (C.nm _ _ (show Z.lookup ("zip" : Str) = some GV.bi by kernel_rfl)) (a_cons (v_ C 0 (by kernel_rfl)) (a_cons (v_ C 1 (by kernel_rfl)) a_nil rfl) rfl) rfl rfl) (fun C => ⟨(g_tup C.at_ (gs_cons (gn_ C 2 (by kernel_rfl)) (gs_cons (gn_ C 3 (by kernel_rfl)) gs_nil rfl) rfl) rfl rfl), ts_nil, (e_fn C 0 (r := r__law_same) (by kernel_rfl) rfl b__law_same (by kernel_rfl) (a_cons (v_ C 2 (by kernel_rfl)) (a_cons (v_ C 3 (by kernel_rfl)) a_nil rfl) rfl))⟩)) a_nil rfl))))))) s_nil) (s_cons (s_if (PW.pt (t_or (t_cmp (o_is) (v_ C 1 (by kernel_rfl)) n_ rfl) (t_or1 (t_tru C.at_ (isi2 C 1 2 (by kernel_rfl) (by kernel_rfl) (by kernel_rfl) (by decide) (by kernel_rfl) (by kernel_rfl) (by kernel_rfl) (by decide) (by kernel_rfl) (by kernel_rfl) (v_ C 1 (by kernel_rfl))) (fun _ => rfl))))) (s_one (s_ret (e_and C.at_ (e_cmp (o_eq C.at_) (v_ C 0 (by kernel_rfl)) (v_ C 1 (by kernel_rfl)) rfl) (e_and C.at_ (e_cmp (o_eq C.at_) (isi1 C 1 (by kernel_rfl) (by kernel_rfl) (by kernel_rfl) (by decide) (by kernel_rfl) (by kernel_rfl) (v_ C 0 (by kernel_rfl))) (isi1 C 1 (by kernel_rfl) (by kernel_rfl) (by kernel_rfl) (by decide) (by kernel_rfl) (by kernel_rfl) (v_ C 1 (by kernel_rfl))) rfl) (e_one (e_cmp (o_eq C.at_) (e_cmp (o_is) (v_ C 0 (by kernel_rfl)) n_ rfl) (e_cmp (o_is) (v_ C 1 (by kernel_rfl)) n_ rfl) rfl)))))) s_nil) (s_one (s_ret (e_and C.at_ (isi1 C 0 (by kernel_rfl) (by kernel_rfl) (by kernel_rfl) (by decide) (by kernel_rfl) (by kernel_rfl) (v_ C 0 (by kernel_rfl))) (e_and C.at_ (e_not C.at_ (isi1 C 1 (by kernel_rfl) (by kernel_rfl) (by kernel_rfl) (by decide) (by kernel_rfl) (by kernel_rfl) (v_ C 0 (by kernel_rfl)))) (e_one (e_cmp (o_eq C.at_) (v_ C 0 (by kernel_rfl)) (v_ C 1 (by kernel_rfl)) rfl))))))))
theorem ok__law_caught {X : Cx} {B : List EV.Row} {Z : List (Str × GV)} {g : Cfg} {E : XK} {n : Nat} (P : Px X) (tp : X.stack = X.env :: X.outer ∧ X.env.frame = some X.env.locals) (C : Ct X B Z g E (n + 2) N__law_caught (defScope s__law_caught).names) : PSs X (defBody s__law_caught) (ts g E m__law_caught) := by
  obtain ⟨C0, C1, T0, T1, x00, x10, x11⟩ := P.np
  have hr : Room 2 X.A := C.room.mono (by omega)
  have g0 : Gl X "NoPlace" := C.glob (by kernel_rfl)
  have g1 : Gl X "BadLine" := C.glob (by kernel_rfl)
  have v0 : ∀ {pos : Pos}, PE X (.Name "way_so" pos) (tVar 0) := pe_var (C.nth (by kernel_rfl)) (C.vis (by kernel_rfl)) (by decide) (by decide)
  have v1 : ∀ {pos : Pos}, PE X (.Name "worth" pos) (tVar 1) := pe_var (C.nth (by kernel_rfl)) (C.vis (by kernel_rfl)) (by decide) (by decide)
  have vis1 : Vis X.env.scope "worth" := C.vis (by kernel_rfl)
  have vis0 : Vis X.env.scope "way_so" := C.vis (by kernel_rfl)
  have vis2 : Vis X.env.scope "error" := C.vis (by kernel_rfl)
  have n0 : X.N[0]? = some ("way_so" : Str) := C.nth (by kernel_rfl)
  have n1 : X.N[1]? = some ("worth" : Str) := C.nth (by kernel_rfl)
  have n2 : X.N[2]? = some ("error" : Str) := C.nth (by kernel_rfl)
  have k2 : X.env.kindOf "error" = some .local := C.lcl (by kernel_rfl)
  have hN : X.N.Nodup := by rw [C.eN]; exact C.nd
  refine PSs.imp (pss_one (ps_tryA (W0 := fun c d _ H => E c d H) tp.1 tp.2 hN C.at_.tk (fun W pn xe tk po =>
    pss_cons (ps_if (pt_cmpR op_eq (pe_var (X := X.tr pn xe) (i := 0) n0 vis0 (by decide) (by decide)) pe_int rfl) (pss_one (s_raiseP (X := X.tr pn xe) (x := "NoPlace") (f := "place") (C := C0) (T0.tr pn xe) g0 (by decide) C.at_.calm hr tk (pe_var (X := X.tr pn xe) (i := 1) n1 vis1 (by decide) (by decide)))) pss_nil)
    (pss_cons (ps_if (pt_cmpR op_eq (pe_var (X := X.tr pn xe) (i := 0) n0 vis0 (by decide) (by decide)) pe_int rfl) (pss_one (s_raiseP (X := X.tr pn xe) (x := "BadLine") (f := "line") (C := C1) (T1.tr pn xe) g1 (by decide) C.at_.calm hr tk (pe_var (X := X.tr pn xe) (i := 1) n1 vis1 (by decide) (by decide)))) pss_nil)
    (pss_cons (ps_if (pt_cmpR op_eq (pe_var (X := X.tr pn xe) (i := 0) n0 vis0 (by decide) (by decide)) pe_int rfl) (pss_one (s_raiseK (X := X.tr pn xe) (x := "NoPlace") (f := "place") (C := C0) (T0.tr pn xe) g0 (by decide) C.at_.calm hr tk (pe_var (X := X.tr pn xe) (i := 1) n1 vis1 (by decide) (by decide)))) pss_nil)
    (pss_one (s_raiseK (X := X.tr pn xe) (x := "BadLine") (f := "line") (C := C1) (T1.tr pn xe) g1 (by decide) C.at_.calm hr tk (pe_var (X := X.tr pn xe) (i := 1) n1 vis1 (by decide) (by decide))))))
    ) (.cons (c := .ref C0) (j := 2) ⟨g0, by decide, .inl T0.g⟩ n2 k2 (fun ad ob cls d pn hz hf => pss_one (ps_ret (pe_lst (pa_cons pe_str (pa_cons (pe_xf T0.xf T0.no hz hf (pe_var (X := X.suite ad ((ad, ob) :: pn)) (i := 2) n2 vis2 (by decide) (by decide))) pa_nil)))))
      (.cons (c := .ref C1) (j := 2) ⟨g1, by decide, .inl T1.g⟩ n2 k2 (fun ad ob cls d pn hz hf => pss_one (ps_ret (pe_lst (pa_cons pe_str (pa_cons (pe_xf T1.xf T1.no hz hf (pe_var (X := X.suite ad ((ad, ob) :: pn)) (i := 2) n2 vis2 (by decide) (by decide))) pa_nil))))) .nil)))) ?_
  rintro D σ H ⟨ι, e, s, R, q, h⟩
  -- the way, what is kept
  unfold m__law_caught at h
  split at h
  · rename_i w d o
    obtain ⟨vw, kw, rw'⟩ := q.2 0 _ rfl
    obtain ⟨vd, kd, rd⟩ := q.2 1 _ rfl
    cases rw'
    have hl : σ.length = 3 := q.1.symm
    have fin : ∀ (t : String) (C' : Addr) (dd ad : Addr), H dd = none → tRs g E (told t d s) H ι D →
        tRet (tLst (tCons (tC (V.str t)) (tCons (tXf ad (.ref C') (some dd) C' t (tVar 2)) tNil))) (goneD 2 D) (σ.set 2 (some (.ref ad))) (upd H dd (.xd [((t : Str), vd)])) := by
      intro t C' dd ad hdd hq
      refine ⟨.ref ad, by rw [List.getElem?_set, if_pos rfl, if_pos (by omega)], rfl, rfl, dd, [((t : Str), vd)], vd, rfl, upd_same, by simp [List.lookup], (by show 2 ≤ sizeLine; decide), fun pa hp => ?_⟩
      have hq' : ∀ v H' ι', Fw g.K H ι H' ι' → RS g.K g.T H' ι' (s.new (.lst [.str t, d])) → RV g.K H' ι' (.lst s.n) v → D.rt v H' := hq
      have R1 : RS g.K g.T (upd H dd (.xd [((t : Str), vd)])) ι s := R.new hdd
      have f1 : Fw g.K H ι (upd H dd (.xd [((t : Str), vd)])) ι := Fw.new hdd
      have f2 : Fw g.K (upd H dd (.xd [((t : Str), vd)])) ι (upd (upd H dd (.xd [((t : Str), vd)])) pa (.lst [.str t, vd])) (ι ++ [pa]) := Fw.newA hp
      refine hq' _ _ _ (f1.trans f2) (R1.alloc hp ⟨_, upd_same, .cons (.str _) (.cons ((rd.fw f1).fw f2) .nil)⟩) (.lst ?_)
      rw [← R.len]
      simp
    have way0 : ∀ dd, H dd = none → tRs g E (told "place" d s) H ι D → wishA X.K (fun c d _ H => E c d H) D [(Value.ref C0, 2, fun ad cls d => tRet (tLst (tCons (tC (V.str ("place" : Str))) (tCons (tXf ad cls d C0 "place" (tVar 2)) tNil)))), (Value.ref C1, 2, fun ad cls d => tRet (tLst (tCons (tC (V.str ("line" : Str))) (tCons (tXf ad cls d C1 "line" (tVar 2)) tNil))))] (.ref C0) (some dd) σ (upd H dd (.xd [(("place" : Str), vd)])) :=
      fun dd hdd hq => ⟨true, x00, fun _ ad _ => fin "place" C0 dd ad hdd hq, fun z => by cases z⟩
    have way1 : ∀ dd, H dd = none → tRs g E (told "line" d s) H ι D → wishA X.K (fun c d _ H => E c d H) D [(Value.ref C0, 2, fun ad cls d => tRet (tLst (tCons (tC (V.str ("place" : Str))) (tCons (tXf ad cls d C0 "place" (tVar 2)) tNil)))), (Value.ref C1, 2, fun ad cls d => tRet (tLst (tCons (tC (V.str ("line" : Str))) (tCons (tXf ad cls d C1 "line" (tVar 2)) tNil))))] (.ref C1) (some dd) σ (upd H dd (.xd [(("line" : Str), vd)])) :=
      fun dd hdd hq => ⟨false, x10, (fun z => by cases z), fun _ => ⟨true, x11, fun _ ad _ => fin "line" C1 dd ad hdd hq, fun z => by cases z⟩⟩
    have ci : ∀ j : Int, decide (V.int w = V.int j) = decide (w = j) := fun j => by
      by_cases hj : w = j
      · subst hj; simp
      · rw [decide_eq_false hj, decide_eq_false (fun z => hj (V.int.inj z))]
    have sp : ∀ {j : Int} {P Q : Prop}, (w = j → P) → (w ≠ j → Q) → if decide (V.int w = V.int j) = true then P else Q := fun {j P Q} hp hq => by
      rw [ci j]
      by_cases hj : w = j
      · rw [decide_eq_true hj, if_pos rfl]; exact hp hj
      · rw [decide_eq_false hj, if_neg (by simp)]; exact hq hj
    refine ⟨_, kw, rfl, _, rfl, sp (fun h0 => ?_) fun h0 => ?_⟩
    · rw [if_pos (.inl h0)] at h
      exact ⟨vd, kd, fun dd hdd => way0 dd hdd h⟩
    refine ⟨_, kw, rfl, _, rfl, sp (fun h1 => ?_) fun h1 => ?_⟩
    · rw [if_neg (by omega)] at h
      exact ⟨vd, kd, fun dd hdd => way1 dd hdd h⟩
    refine ⟨_, kw, rfl, _, rfl, sp (fun h2 => ?_) fun h2 => ?_⟩
    · rw [if_pos (.inr h2)] at h
      exact ⟨vd, kd, fun dd hdd => way0 dd hdd h⟩
    rw [if_neg (by omega)] at h
    exact ⟨vd, kd, fun dd hdd => way1 dd hdd h⟩
  · exact h.elim

theorem ok__law_plain {X : Cx} {g : Cfg} {E : XK} {n : Nat} (P : Px X) (tp : Tp X) (C : Ct X B Z g E (n + 2) N__law_plain (defScope s__law_plain).names) : PSs X (defBody s__law_plain) (ts g E m__law_plain) :=
  (s_one (s_ret (e_lst (a_cons (isEb C tb_LookupError "LookupError" (by kernel_rfl) (by kernel_rfl) (by kernel_rfl) (by kernel_rfl) (by kernel_rfl) P.b_LookupError (v_ C 0 (by kernel_rfl))) (a_cons (isEb C tb_ValueError "ValueError" (by kernel_rfl) (by kernel_rfl) (by kernel_rfl) (by kernel_rfl) (by kernel_rfl) P.b_ValueError (v_ C 0 (by kernel_rfl))) (a_cons (isEb C tb_KeyError "KeyError" (by kernel_rfl) (by kernel_rfl) (by kernel_rfl) (by kernel_rfl) (by kernel_rfl) P.b_KeyError (v_ C 0 (by kernel_rfl))) (a_cons (isEb C tb_IndexError "IndexError" (by kernel_rfl) (by kernel_rfl) (by kernel_rfl) (by kernel_rfl) (by kernel_rfl) P.b_IndexError (v_ C 0 (by kernel_rfl))) a_nil rfl) rfl) rfl) rfl))))
theorem ok__law_kinds {X : Cx} {g : Cfg} {E : XK} {n : Nat} (P : Px X) (tp : Tp X) (C : Ct X B Z g E (n + 2) N__law_kinds (defScope s__law_kinds).names) : PSs X (defBody s__law_kinds) (ts g E m__law_kinds) :=
  (s_one (s_ret (e_lst (a_cons (isEo' C tb_NoPlace (by kernel_rfl) (by kernel_rfl) (by kernel_rfl) P.o_NoPlace (v_ C 0 (by kernel_rfl))) (a_cons (isEo' C tb_NothingDone (by kernel_rfl) (by kernel_rfl) (by kernel_rfl) P.o_NothingDone (v_ C 0 (by kernel_rfl))) (a_cons (isEo' C tb_BadLine (by kernel_rfl) (by kernel_rfl) (by kernel_rfl) P.o_BadLine (v_ C 0 (by kernel_rfl))) (a_cons (isEo' C tb_CanNot (by kernel_rfl) (by kernel_rfl) (by kernel_rfl) P.o_CanNot (v_ C 0 (by kernel_rfl))) (a_cons (isEo' C tb_TooMuch (by kernel_rfl) (by kernel_rfl) (by kernel_rfl) P.o_TooMuch (v_ C 0 (by kernel_rfl))) (a_cons (isEo' C tb_Unfit (by kernel_rfl) (by kernel_rfl) (by kernel_rfl) P.o_Unfit (v_ C 0 (by kernel_rfl))) a_nil rfl) rfl) rfl) rfl) rfl) rfl))))
theorem ok__law_by_hand_right {X : Cx} {g : Cfg} {E : XK} {n : Nat} (P : Px X) (tp : Tp X) (C : Ct X B Z g E (n + 2) N__law_by_hand_right (defScope s__law_by_hand_right).names) : PSs X (defBody s__law_by_hand_right) (ts g E m__law_by_hand_right) :=
  (s_cons (s_asg (ws := [0]) (e_lst (a_cons (e_errI' C "place" P.f_NoPlace (by kernel_rfl) (i_ 7)) (a_cons (e_err0' C P.z_NothingDone (by kernel_rfl)) (a_cons (e_errI' C "line" P.f_BadLine (by kernel_rfl) (i_ 7)) (a_cons (e_err0' C P.z_CanNot (by kernel_rfl)) (a_cons (e_err0' C P.z_TooMuch (by kernel_rfl)) (a_cons (e_err0' C P.z_Unfit (by kernel_rfl)) a_nil rfl) rfl) rfl) rfl) rfl) rfl)) (gn_ C 0 (by kernel_rfl)) rfl rfl rfl) (s_cons (setLc_ C 1 [(("own" : Str), 3)] (by kernel_rfl) (by kernel_rfl) (by kernel_rfl) (by kernel_rfl) (by kernel_rfl) (i_seq C.at_ (v_ C 0 (by kernel_rfl))) (fun C => ⟨(gn_ C 3 (by kernel_rfl)), ts_nil, (e_fn C 2 (r := r__law_plain) (by kernel_rfl) rfl b__law_plain (by kernel_rfl) (a_cons (v_ C 3 (by kernel_rfl)) a_nil rfl))⟩)) (s_cons (s_asg (ws := [2]) (e_op (o_add C.at_) (e_op (o_mul C.at_) (e_lst (a_cons (e_lst (a_cons (b_ true) (a_cons (b_ false) (a_cons (b_ false) (a_cons (b_ false) a_nil rfl) rfl) rfl) rfl)) a_nil rfl)) (i_ 2)) (e_op (o_mul C.at_) (e_lst (a_cons (e_lst (a_cons (b_ false) (a_cons (b_ true) (a_cons (b_ false) (a_cons (b_ false) a_nil rfl) rfl) rfl) rfl)) a_nil rfl)) (i_ 4))) (gn_ C 2 (by kernel_rfl)) rfl rfl rfl) (s_cons (s_asg (ws := [1]) (e_op (o_add C.at_) (v_ C 1 (by kernel_rfl)) (lc_ C [(("own" : Str), 3)] (by kernel_rfl) (i_seq C.at_ (v_ C 0 (by kernel_rfl))) (fun C => ⟨(gn_ C 3 (by kernel_rfl)), ts_nil, (e_fn C 3 (r := r__law_kinds) (by kernel_rfl) rfl b__law_kinds (by kernel_rfl) (a_cons (v_ C 3 (by kernel_rfl)) a_nil rfl))⟩))) (gn_ C 1 (by kernel_rfl)) rfl rfl rfl) (s_cons (s_asg (ws := [2]) (e_op (o_add C.at_) (v_ C 2 (by kernel_rfl)) (lc_ C [(("k" : Str), 4)] (by kernel_rfl) (i_rng1 C.at_ (C.glob (by kernel_rfl)) (C.nm _ _ (show Z.lookup ("range" : Str) = some GV.bi by kernel_rfl)) (a_cons (i_ 6) a_nil rfl) rfl) (fun C => ⟨(gn_ C 4 (by kernel_rfl)), ts_nil, (lc_ C [(("far" : Str), 5)] (by kernel_rfl) (i_rng1 C.at_ (C.glob (by kernel_rfl)) (C.nm _ _ (show Z.lookup ("range" : Str) = some GV.bi by kernel_rfl)) (a_cons (i_ 6) a_nil rfl) rfl) (fun C => ⟨(gn_ C 5 (by kernel_rfl)), ts_nil, (e_cmp (o_eq C.at_) (v_ C 4 (by kernel_rfl)) (v_ C 5 (by kernel_rfl)) rfl)⟩))⟩))) (gn_ C 2 (by kernel_rfl)) rfl rfl rfl) (s_one (s_ret (e_fn C 0 (r := r__law_same) (by kernel_rfl) rfl b__law_same (by kernel_rfl) (a_cons (v_ C 1 (by kernel_rfl)) (a_cons (v_ C 2 (by kernel_rfl)) a_nil rfl) rfl)))))))))
theorem row__law_same : RowOk B Z RX0 Px r__law_same := ⟨⟨rfl, rfl, rfl, by decide +kernel, rfl, by decide +kernel, by decide +kernel⟩, fun P tp C => ok__law_same P tp C⟩
theorem row__law_caught : RowOk B Z RX0 Px r__law_caught := ⟨⟨rfl, rfl, rfl, by decide +kernel, rfl, by decide +kernel, by decide +kernel⟩, fun P tp C => ok__law_caught P tp C⟩
theorem row__law_plain : RowOk B Z RX0 Px r__law_plain := ⟨⟨rfl, rfl, rfl, by decide +kernel, rfl, by decide +kernel, by decide +kernel⟩, fun P tp C => ok__law_plain P tp C⟩
theorem row__law_kinds : RowOk B Z RX0 Px r__law_kinds := ⟨⟨rfl, rfl, rfl, by decide +kernel, rfl, by decide +kernel, by decide +kernel⟩, fun P tp C => ok__law_kinds P tp C⟩
theorem row__law_by_hand_right : RowOk B Z RX0 Px r__law_by_hand_right := ⟨⟨rfl, rfl, rfl, by decide +kernel, rfl, by decide +kernel, by decide +kernel⟩, fun P tp C => ok__law_by_hand_right P tp C⟩
theorem rows : ∀ r ∈ B, RowOk B Z RX0 Px r := AllB.get (B := B) ⟨row__law_same, row__law_caught, row__law_plain, row__law_kinds, row__law_by_hand_right, trivial⟩

def m_rest : MS := (sSeq (sAsg (mOp dAdd (mVar 2) (mC (.int 1))) (gNm 3)) (sSeq (sAsg (mLst (mCons (mFn 1 (mCons (mC (.int 0)) (mCons (mVar 2) mNil))) (mCons (mFn 1 (mCons (mC (.int 1)) (mCons (mVar 3) mNil))) (mCons (mFn 1 (mCons (mC (.int 2)) (mCons (mVar 2) mNil))) (mCons (mFn 1 (mCons (mC (.int 3)) (mCons (mVar 3) mNil))) mNil))))) (gNm 4)) (sIf (tNotM (tTru (mFn 0 (mCons (mVar 4) (mCons (mOp dMul (mLst (mCons (mLst (mCons (mC (.str "place")) (mCons (mVar 2) mNil))) (mCons (mLst (mCons (mC (.str "line")) (mCons (mVar 3) mNil))) mNil))) (mC (.int 2))) mNil))))) (sRet (mC (.bl false))) sNil)))
def m_plc : MS := (sAsg (mOp (intOpC modOk fun i j => .int (i.fmod j)) (mCall bInt (mCons (mCall bAbs (mCons (mVar 1) mNil)) mNil)) (mC (.int 1000))) (gNm 2))
def t_hand : MT := (tNotM (tTru (mFn 4 mNil)))
def isNx (r : R Fl) : Bool := match r with
  | .ok (.nx e) _ => e.length == 5
  | _ => false
def isF (r : R Bool) : Bool := match r with
  | .ok b _ => !b
  | _ => false
def turnOk (k : Nat) : Bool := isNx (m_rest (run B 12) [none, none, some (.int (k : Nat)), none, none] ⟨0, []⟩)
def allN : Nat → (Nat → Bool) → Bool
  | 0, _ => true
  | n + 1, f => f n && allN n f
theorem allN_get {f : Nat → Bool} : ∀ {n : Nat}, allN n f = true → ∀ k < n, f k = true
  | 0, _, k, h => absurd h (Nat.not_lt_zero k)
  | n + 1, e, k, h => by
    obtain ⟨h1, h2⟩ := Bool.and_eq_true_iff.mp e
    rcases Nat.lt_succ_iff_lt_or_eq.mp h with h | h
    · exact allN_get h2 k h
    · rw [h]; exact h1
theorem hand_ok : isF (t_hand (run B 12) (List.replicate 5 none) ⟨0, []⟩) = true := by kernel_rfl
theorem turns_0 : allN 50 (fun j => turnOk (50 * 0 + j)) = true := by kernel_rfl
theorem turns_1 : allN 50 (fun j => turnOk (50 * 1 + j)) = true := by kernel_rfl
theorem turns_2 : allN 50 (fun j => turnOk (50 * 2 + j)) = true := by kernel_rfl
theorem turns_3 : allN 50 (fun j => turnOk (50 * 3 + j)) = true := by kernel_rfl
theorem turns_4 : allN 50 (fun j => turnOk (50 * 4 + j)) = true := by kernel_rfl
theorem turns_5 : allN 50 (fun j => turnOk (50 * 5 + j)) = true := by kernel_rfl
theorem turns_6 : allN 50 (fun j => turnOk (50 * 6 + j)) = true := by kernel_rfl
theorem turns_7 : allN 50 (fun j => turnOk (50 * 7 + j)) = true := by kernel_rfl
theorem turns_8 : allN 50 (fun j => turnOk (50 * 8 + j)) = true := by kernel_rfl
theorem turns_9 : allN 50 (fun j => turnOk (50 * 9 + j)) = true := by kernel_rfl
theorem turns_10 : allN 50 (fun j => turnOk (50 * 10 + j)) = true := by kernel_rfl
theorem turns_11 : allN 50 (fun j => turnOk (50 * 11 + j)) = true := by kernel_rfl
theorem turns_12 : allN 50 (fun j => turnOk (50 * 12 + j)) = true := by kernel_rfl
theorem turns_13 : allN 50 (fun j => turnOk (50 * 13 + j)) = true := by kernel_rfl
theorem turns_14 : allN 50 (fun j => turnOk (50 * 14 + j)) = true := by kernel_rfl
theorem turns_15 : allN 50 (fun j => turnOk (50 * 15 + j)) = true := by kernel_rfl
theorem turns_16 : allN 50 (fun j => turnOk (50 * 16 + j)) = true := by kernel_rfl
theorem turns_17 : allN 50 (fun j => turnOk (50 * 17 + j)) = true := by kernel_rfl
theorem turns_18 : allN 50 (fun j => turnOk (50 * 18 + j)) = true := by kernel_rfl
theorem turns_19 : allN 50 (fun j => turnOk (50 * 19 + j)) = true := by kernel_rfl
theorem turns : ∀ i, i < 20 → allN 50 (fun j => turnOk (50 * i + j)) = true := by
  intro i hi
  match i, hi with
  | 0, _ => exact turns_0
  | 1, _ => exact turns_1
  | 2, _ => exact turns_2
  | 3, _ => exact turns_3
  | 4, _ => exact turns_4
  | 5, _ => exact turns_5
  | 6, _ => exact turns_6
  | 7, _ => exact turns_7
  | 8, _ => exact turns_8
  | 9, _ => exact turns_9
  | 10, _ => exact turns_10
  | 11, _ => exact turns_11
  | 12, _ => exact turns_12
  | 13, _ => exact turns_13
  | 14, _ => exact turns_14
  | 15, _ => exact turns_15
  | 16, _ => exact turns_16
  | 17, _ => exact turns_17
  | 18, _ => exact turns_18
  | 19, _ => exact turns_19
  | i + 20, h => exact absurd h (by omega)
theorem turn {k : Nat} (h : k < 1000) : turnOk k = true := by
  have h1 := allN_get (turns (k / 50) (by omega)) (k % 50) (by omega)
  rw [show 50 * (k / 50) + k % 50 = k by omega] at h1
  exact h1

end EVX

namespace EVX
open L2 PySem PySem.Spec PyProof.Rows EV
/-- the script stays -/
theorem sq_fw {K : PySem.W.Frag} {H H' : Hp} {ι' : List Addr} {a : Addr} {xs : List V} (f : Fw K H [] H' ι') (h : SqL K H a xs) : SqL K H' a xs := by
  rcases h with (h | ⟨o, h⟩) | h
  · exact .inl (.inl (f.oth a _ h (by simp) (fun ps z => by cases z)))
  · exact .inl (.inr ⟨o, f.oth a _ h (by simp) (fun ps z => by cases z)⟩)
  · exact .inr h
def cells (ks : List Int) : List Int := ks.take 8 ++ [0, 1, 999]
theorem law_body {X : Cx} {K : PySem.W.Frag} (hK : X.K = K) (P : Px X) (C : Ct X B Z (cfg K [] (RX0 K []) B 12) L2.E0 (12 + 2) N_law (defScope s_law).names) :
    ∃ t, PSs X (defBody s_law) t ∧ ∀ (a : Addr) (ks : List Int) (σ : L2.St) (H : Hp) (D : Ends), σ.length = N_law.length → σ[0]? = some (some (.ref a)) → SqL K H a (ks.map V.int) → ks.length ≤ 63 → (∀ H', D.rt (.bl true) H') → t D σ H := by
  have hN : X.N.Nodup := by rw [C.eN]; exact C.nd
  refine ⟨_, pss_cons (ps_if (t_not (t_tru C.at_ (e_fn0 C 4 (r := r__law_by_hand_right) (by kernel_rfl) rfl b__law_by_hand_right (by kernel_rfl)) (fun _ => rfl))) (pss_one (ps_ret pe_bl)) pss_nil)
    (pss_cons (ps_for C.at_.po C.at_.calm (pi_list (pe_op op_cat (pe_callTy call_list_of (C.glob (by kernel_rfl)) (C.nm _ _ (show Z.lookup ("list" : Str) = some GV.bi by kernel_rfl)) boot_list (pa_cons (pe_slice sl_list (pe_var (i := 0) (C.nth (by kernel_rfl)) (C.vis (by kernel_rfl)) (by decide) (by decide)) po_none (po_some pe_int)) pa_nil)) (pe_lst (pa_cons pe_int (pa_cons pe_int (pa_cons pe_int pa_nil))))))
      (pg_name (i := 1) hN (C.nth (by kernel_rfl)) (C.loc (by kernel_rfl)) (C.locf (by kernel_rfl)))
      (pss_cons (s_asg (ws := [2]) (e_op (o_mod) (ty_ C (c_int) (by kernel_rfl) (by kernel_rfl) (by kernel_rfl) (a_cons (bi_ C (c_abs) (by kernel_rfl) (by kernel_rfl) (by kernel_rfl) (a_cons (v_ C 1 (by kernel_rfl)) a_nil rfl)) a_nil rfl)) (i_ 1000)) (gn_ C 2 (by kernel_rfl)) rfl rfl rfl)
        (s_cons (s_asg (ws := [3]) (e_op (o_add C.at_) (v_ C 2 (by kernel_rfl)) (i_ 1)) (gn_ C 3 (by kernel_rfl)) rfl rfl rfl) (s_cons (s_asg (ws := [4]) (e_lst (a_cons (e_fn C 1 (r := r__law_caught) (by kernel_rfl) rfl b__law_caught (by kernel_rfl) (a_cons (i_ 0) (a_cons (v_ C 2 (by kernel_rfl)) a_nil rfl) rfl)) (a_cons (e_fn C 1 (r := r__law_caught) (by kernel_rfl) rfl b__law_caught (by kernel_rfl) (a_cons (i_ 1) (a_cons (v_ C 3 (by kernel_rfl)) a_nil rfl) rfl)) (a_cons (e_fn C 1 (r := r__law_caught) (by kernel_rfl) rfl b__law_caught (by kernel_rfl) (a_cons (i_ 2) (a_cons (v_ C 2 (by kernel_rfl)) a_nil rfl) rfl)) (a_cons (e_fn C 1 (r := r__law_caught) (by kernel_rfl) rfl b__law_caught (by kernel_rfl) (a_cons (i_ 3) (a_cons (v_ C 3 (by kernel_rfl)) a_nil rfl) rfl)) a_nil rfl) rfl) rfl) rfl)) (gn_ C 4 (by kernel_rfl)) rfl rfl rfl) (s_one (s_if (t_not (t_tru C.at_ (e_fn C 0 (r := r__law_same) (by kernel_rfl) rfl b__law_same (by kernel_rfl) (a_cons (v_ C 4 (by kernel_rfl)) (a_cons (e_op (o_mul C.at_) (e_lst (a_cons (e_lst (a_cons (s_ "place") (a_cons (v_ C 2 (by kernel_rfl)) a_nil rfl) rfl)) (a_cons (e_lst (a_cons (s_ "line") (a_cons (v_ C 3 (by kernel_rfl)) a_nil rfl) rfl)) a_nil rfl) rfl)) (i_ 2)) a_nil rfl) rfl)) (fun _ => rfl))) (s_one (s_ret (b_ false))) s_nil)))))
      (fun _ => rfl)) (pss_one (ps_ret pe_bl))), fun a ks σ H D hl h0 hS hk hD => ?_⟩
  -- by hand
  refine ⟨[], List.replicate 5 none, ⟨0, []⟩, RS.none, RE.none hl.symm, ?_⟩
  have hh : isF (t_hand (run B 12) (List.replicate 5 none) ⟨0, []⟩) = true := hand_ok
  revert hh
  show isF (t_hand (run B 12) (List.replicate 5 none) ⟨0, []⟩) = true → tRt (cfg K [] (RX0 K []) B 12) L2.E0 (t_hand (run B 12) (List.replicate 5 none) ⟨0, []⟩) H [] _
  generalize t_hand (run B 12) (List.replicate 5 none) ⟨0, []⟩ = r
  intro hh
  cases r with
  | ex x s1 => cases hh
  | no => cases hh
  | ok b s1 =>
  have hb : b = false := by
    cases b with
    | false => rfl
    | true => cases hh
  subst hb
  intro v H1 ι1 f1 R1 ev
  subst ev
  have hS1 : SqL X.K H1 a (ks.map V.int) := by rw [hK]; exact sq_fw f1 hS
  refine ⟨.ref a, h0, 8, rfl, a, _, rfl, hS1, fun p1 hp1 => ⟨p1, _, rfl, .inl (.inl (.inl upd_same)), fun p2 hp2 => ⟨(by show 3 ≤ sizeLine; decide), fun p3 hp3 => ?_⟩⟩⟩
  have n23 : p2 ≠ p3 := fun z => by rw [← z, upd_same] at hp3; cases hp3
  refine ⟨p2, p3, _, _, rfl, rfl, by rw [upd_ne n23]; exact upd_same, upd_same, ?_, fun p4 hp4 => ?_⟩
  · have h1 := cutV_length (ks.map V.int) none (some 8)
    rw [List.length_map] at h1
    have : (3 : Nat) + 63 ≤ sizeLine := by decide
    simp only [List.length_cons, List.length_nil]
    omega
  refine ⟨p4, rfl, ⟨_, .inl (.inl upd_same)⟩, ?_⟩
  generalize hL : cutV (ks.map V.int) none (some 8) ++ [V.int 0, V.int 1, V.int 999] = L
  have allI : ∀ x ∈ L, ∃ j : Int, x = .int j := by
    intro x hx
    rw [← hL] at hx
    rcases List.mem_append.mp hx with h | h
    · have h2 : x ∈ ks.map V.int := List.mem_of_mem_drop (List.mem_of_mem_take h)
      obtain ⟨j, _, rfl⟩ := List.mem_map.mp h2
      exact ⟨j, rfl⟩
    · simp at h
      rcases h with h | h | h <;> exact ⟨_, h⟩
  refine ⟨fun i m σ H => σ.length = 5 ∧ H p4 = some (.lst L) ∧ i + m = L.length, ⟨L.length, hl, upd_same, by omega⟩, ?_⟩
  rintro i m σ' H' ⟨q1, q2, q3⟩
  have q2' : SqL X.K H' p4 L := .inl (.inl q2)
  by_cases him : i = L.length
  · exact .inl ⟨⟨L, q2', by omega⟩, hD _⟩
  have hi : i < L.length := by omega
  refine .inr ⟨⟨L, L[i], q2', List.getElem?_eq_getElem hi⟩, fun σ2 H2 => σ2.length = 5 ∧ H2 p4 = some (.lst L), fun σ2 H2 w => ⟨m - 1, by omega, w.1, w.2, by omega⟩, fun x H2 y => ?_⟩
  obtain ⟨rfl, y⟩ := y
  have hx := y L q2'
  obtain ⟨j, rfl⟩ := allI x (List.mem_of_getElem? hx)
  -- the place
  refine ⟨[], [none, some (.int j), none, none, none], ⟨0, []⟩, RS.none, ⟨by rw [List.length_set]; exact q1.symm, fun k d e => ?_⟩, ?_⟩
  · match k, e with
    | 0, e => cases e
    | 1, e =>
      cases e
      exact ⟨.int j, by rw [List.getElem?_set_self (by omega)], .int j⟩
    | 2, e => cases e
    | 3, e => cases e
    | 4, e => cases e
    | k + 5, e => simp at e
  intro σ3 H3 ι3 f3 R3 q
  obtain ⟨v3, e3, r3⟩ := q.2 2 _ rfl
  cases r3
  have l3 : σ3.length = 5 := q.1.symm
  have hp0 : 0 ≤ Int.fmod (if j < 0 then -j else j) 1000 := Int.fmod_nonneg_of_pos _ (by decide)
  have hp1' : Int.fmod (if j < 0 then -j else j) 1000 < 1000 := Int.fmod_lt_of_pos _ (by decide)
  obtain ⟨k, hk2⟩ := Int.eq_ofNat_of_zero_le hp0
  rw [hk2] at e3 hp1'
  have tk := turn (k := k) (by omega)
  refine ⟨[], [none, none, some (.int (k : Nat)), none, none], ⟨0, []⟩, RS.none, ⟨l3.symm, fun k' d e => ?_⟩, ?_⟩
  · match k', e with
    | 0, e => cases e
    | 1, e => cases e
    | 2, e =>
      cases e
      exact ⟨_, e3, .int _⟩
    | 3, e => cases e
    | 4, e => cases e
    | k' + 5, e => simp at e
  revert tk
  unfold turnOk
  show isNx (m_rest (run B 12) [none, none, some (.int (k : Nat)), none, none] ⟨0, []⟩) = true → tRs (cfg K [] (RX0 K []) B 12) L2.E0 (m_rest (run B 12) [none, none, some (.int (k : Nat)), none, none] ⟨0, []⟩) H3 [] _
  generalize m_rest (run B 12) [none, none, some (.int (k : Nat)), none, none] ⟨0, []⟩ = r
  intro tk
  cases r with
  | ex x s1 => cases tk
  | no => cases tk
  | ok fl s1 =>
    cases fl with
    | nx e2 =>
      have h5 : e2.length = 5 := by
        unfold isNx at tk
        exact beq_iff_eq.mp tk
      intro σ4 H4 ι4 f4 R4 q4
      refine ⟨by rw [← q4.1]; exact h5, f4.oth p4 _ (f3.oth p4 _ q2 (by simp) (fun ps z => by cases z)) (by simp) (fun ps z => by cases z)⟩
    | rt d => cases tk
    | bk e2 => cases tk
    | ct e2 => cases tk
end EVX

namespace EVX
open L2 PySem PySem.Spec PyProof.Rows EV
def inCls : PySem.Stmt → PySem.Stmt
  | .ClassDef _ _ _ body _ _ _ _ _ _ _ => body.getD 0 (.Pass ⟨0, 0, 0, 0⟩)
  | s => s
abbrev i_NoPlace : PySem.Stmt := inCls (tp 1)
abbrev i_BadLine : PySem.Stmt := inCls (tp 3)
theorem sc_NoPlace : FnScope ["self", "place"] ["self", "place"] (defScope i_NoPlace) := ⟨rfl, rfl, rfl, by decide +kernel, rfl, by decide +kernel, by decide +kernel⟩
theorem sc_BadLine : FnScope ["self", "line"] ["self", "line"] (defScope i_BadLine) := ⟨rfl, rfl, rfl, by decide +kernel, rfl, by decide +kernel, by decide +kernel⟩
theorem sc_law : FnScope N_law ["script"] (defScope s_law) := ⟨rfl, rfl, rfl, by decide +kernel, rfl, by decide +kernel, by decide +kernel⟩
theorem hb_NoPlace {K : PySem.W.Frag} {fI : Addr} {fd : FuncData} (F : Fun K "__init__" "NoPlace.__init__" i_NoPlace fI fd) : Binds K fd ["self", "place"] [] ∧ BindK K fd ["self", "place"] "place" := by
  refine ⟨F.binds fun _ _ _ _ _ _ us hl => match us, hl with | [_, _], _ => rfl, ?_⟩
  obtain ⟨oc, od, kV, doc, pm, an, cdv, ct, osl, rfl, lk, hcd⟩ := F.ex
  exact fun s u w => BindsTo.of_eq rfl
theorem hb_BadLine {K : PySem.W.Frag} {fI : Addr} {fd : FuncData} (F : Fun K "__init__" "BadLine.__init__" i_BadLine fI fd) : Binds K fd ["self", "line"] [] ∧ BindK K fd ["self", "line"] "line" := by
  refine ⟨F.binds fun _ _ _ _ _ _ us hl => match us, hl with | [_, _], _ => rfl, ?_⟩
  obtain ⟨oc, od, kV, doc, pm, an, cdv, ct, osl, rfl, lk, hcd⟩ := F.ex
  exact fun s u w => BindsTo.of_eq rfl
theorem law_binds {K : PySem.W.Frag} {f : Addr} {fd : FuncData} (F : Fun K "law" "law" s_law f fd) (s : Shared) (u : Value) : BindsTo s fd ⟨[u], []⟩ [(("script" : Str), u)] := by
  obtain ⟨oc, od, kV, doc, pm, an, cdv, ct, osl, rfl, lk, hcd⟩ := F.ex
  exact BindsTo.of_eq rfl
theorem errF_NoPlace {X : Cx} {K : PySem.W.Frag} {h : Heap} {mg : Str → Option Value} {C fI : Addr} (KX : K.In h) (G : h.Ns mainGlobals mg) (hK : X.K = K) (hm : X.mg = mg) (A : ErrAt K "NoPlace" "place" "NoPlace.__init__" "LookupError" "LookupError.__new__" "LookupError.__init__" [.type "LookupError", .type "Exception", .type "BaseException", .type "object"] i_NoPlace C fI) : ErrF X "NoPlace" "place" C :=
  errF_of KX G hK hm A PySem.F.excBase_LookupError PySem.F.store_LookupError sc_NoPlace rfl rfl PyProof.Rows.Boot.«LookupError» (by kernel_rfl) (by decide +kernel) (by decide +kernel) (by decide) (by decide) (by decide) (fun _ => rfl) hb_NoPlace
theorem errF_BadLine {X : Cx} {K : PySem.W.Frag} {h : Heap} {mg : Str → Option Value} {C fI : Addr} (KX : K.In h) (G : h.Ns mainGlobals mg) (hK : X.K = K) (hm : X.mg = mg) (A : ErrAt K "BadLine" "line" "BadLine.__init__" "ValueError" "ValueError.__new__" "ValueError.__init__" [.type "ValueError", .type "Exception", .type "BaseException", .type "object"] i_BadLine C fI) : ErrF X "BadLine" "line" C :=
  errF_of KX G hK hm A PySem.F.excBase_ValueError PySem.F.store_ValueError sc_BadLine rfl rfl PyProof.Rows.Boot.«ValueError» (by kernel_rfl) (by decide +kernel) (by decide +kernel) (by decide) (by decide) (by decide) (fun _ => rfl) hb_BadLine
end EVX

namespace EV
open L2 PySem PySem.Spec PyProof.Rows
def AllT (P : Str → Bool → Prop) : List (Str × Bool) → Prop
  | [] => True
  | (x, b) :: r => P x b ∧ AllT P r
theorem AllT.get {P : Str → Bool → Prop} : ∀ {tb : List (Str × Bool)}, AllT P tb → ∀ x b, tb.lookup x = some b → P x b
  | [], _, x, b, e => by simp at e
  | (y, w) :: r, h, x, b, e => by
    rw [List.lookup_cons] at e
    cases hx : x == y with
    | true =>
      rw [hx] at e
      cases e
      rw [beq_iff_eq.mp hx]
      exact h.1
    | false =>
      rw [hx] at e
      exact AllT.get h.2 x b e
theorem isF1 {K : PySem.W.Frag} {cv : Value} {x : Str} {C : Addr} {b : Bool} (n : PySem.W.nsIn K mainGlobals x = some (some (.ref C))) (e : ExcC K C) (k : PySem.W.kitOne K (.ref C) cv = some b) : ∀ C', PySem.W.nsIn K mainGlobals x = some (some (.ref C')) → ExcC K C' ∧ PySem.W.kitOne K (.ref C') cv = some b := fun C' h => by
  rw [n] at h
  cases h
  exact ⟨e, k⟩
theorem FunAt.of {K : PySem.W.Frag} {x : Str} {st : PySem.Stmt} {f : Addr} {oc : Value} {od : Option Addr} {kV doc pm : Value} {an : Option Addr} {cdv ct : Value} {osl : Array (Option Value)} (a : PySem.W.nsIn K mainGlobals x = some (some (.ref f)))
    (l : K.lookup f = some ⟨oc, od, .func (PySem.W.fnOf x x (defArgs st) (defBody st) (defScope st) .none kV doc pm an cdv ct), osl⟩) (c : PySem.W.codeIn K cdv x = true) (k : PySem.W.keepIn K (.ref f) = true) : FunAt K x st := ⟨_, _, _, _, _, _, _, _, _, _, a, l, c, k⟩
theorem ErrAt.of {K : PySem.W.Frag} {x f qual : Str} {Bn newId initId : String} {bmB : List Value} {st : PySem.Stmt} {C fI : Addr} {nm q : Str} {M : Addr} {bs bm : List Value} {sn : List Str} {sub : List Value} {ab : Bool} {col : Option Bool} {dd : Option Addr} {k0 k1 k2 k3 k5 : Option Value} {oc : Value} {od : Option Addr} {kV doc pm : Value} {an : Option Addr} {cdv ct : Value} {osl : Array (Option Value)}
    (ns : PySem.W.nsIn K mainGlobals x = some (some (.ref C))) (cl : K.lookup C = some (excClassObj nm q C M bs bm true sn sub ab col dd k0 k1 k2 k3 k5 newId)) (ct' : PySem.W.excTail bmB bm = true)
    (sa : PySem.W.findIn K (.ref C) "__setattr__" = some (some (.builtin "object.__setattr__"))) (xc : PySem.W.subIn K (.ref C) (.type "BaseException") = some true) (ty : PySem.W.typeIn K (.ref C) = some (.type "type")) (kc : PySem.W.keepIn K (.ref C) = true)
    (ic : PySem.W.findIn K (.ref C) "__init__" = some (some (.ref fI))) (ti : PySem.W.typeIn K (.ref fI) = some (.type "function")) (no : PySem.W.findIn K (.ref C) f = some none) (ga : PySem.W.findIn K (.ref C) "__getattribute__" = some (some (.builtin "BaseException.__getattribute__")))
    (gg : PySem.W.findIn K (.ref C) "__getattr__" = some none) (hd : PySem.W.hasDictIn K C = true) (f1 : K.lookup fI = some ⟨oc, od, .func (PySem.W.fnOf "__init__" qual (defArgs st) (defBody st) (defScope st) .none kV doc pm an cdv ct), osl⟩) (f2 : PySem.W.codeIn K cdv qual = true)
    (ki : PySem.W.keepIn K (.ref fI) = true) (ba : PySem.W.nsIn K mainGlobals (Bn : Str) = some none) (fi : PySem.W.findCls K (.type Bn) (.type "type") "__init__" = some (.val (.builtin initId))) : ErrAt K x f qual Bn newId initId bmB st C fI :=
  ⟨ns, ⟨_, _, _, _, _, _, _, _, _, _, _, _, _, _, _, cl, ct'⟩, sa, xc, ty, kc, ic, ti, no, ga, gg, hd, ⟨_, _, _, _, _, _, _, _, _, f1, f2⟩, ki, ba, fi⟩
end EV
namespace EVX
open L2 PySem PySem.Spec PyProof.Rows EV
theorem px_of {X : Cx} {K : PySem.W.Frag} {h : Heap} {mg : Str → Option Value} {C0 C1 C2 C3 C4 C5 I0 I2 : Addr} (KX : K.In h) (G : h.Ns mainGlobals mg) (hK : X.K = K) (hm : X.mg = mg)
    (A0 : ErrAt K "NoPlace" "place" "NoPlace.__init__" "LookupError" "LookupError.__new__" "LookupError.__init__" [.type "LookupError", .type "Exception", .type "BaseException", .type "object"] i_NoPlace C0 I0)
    (n1 : PySem.W.nsIn K mainGlobals "NothingDone" = some (some (.ref C1)))
    (q1 : PySem.W.excIn K C1 [.type "LookupError", .type "Exception", .type "BaseException", .type "object"] "LookupError.__new__" = true)
    (kp1 : PySem.W.keepIn K (.ref C1) = true)
    (A2 : ErrAt K "BadLine" "line" "BadLine.__init__" "ValueError" "ValueError.__new__" "ValueError.__init__" [.type "ValueError", .type "Exception", .type "BaseException", .type "object"] i_BadLine C2 I2)
    (n3 : PySem.W.nsIn K mainGlobals "CanNot" = some (some (.ref C3)))
    (q3 : PySem.W.excIn K C3 [.type "ValueError", .type "Exception", .type "BaseException", .type "object"] "ValueError.__new__" = true)
    (kp3 : PySem.W.keepIn K (.ref C3) = true)
    (n4 : PySem.W.nsIn K mainGlobals "TooMuch" = some (some (.ref C4)))
    (q4 : PySem.W.excIn K C4 [.type "ValueError", .type "Exception", .type "BaseException", .type "object"] "ValueError.__new__" = true)
    (kp4 : PySem.W.keepIn K (.ref C4) = true)
    (n5 : PySem.W.nsIn K mainGlobals "Unfit" = some (some (.ref C5)))
    (q5 : PySem.W.excIn K C5 [.type "ValueError", .type "Exception", .type "BaseException", .type "object"] "ValueError.__new__" = true)
    (kp5 : PySem.W.keepIn K (.ref C5) = true)
    (e0 : ExcC K C0)
    (e1 : ExcC K C1)
    (e2 : ExcC K C2)
    (e3 : ExcC K C3)
    (e4 : ExcC K C4)
    (e5 : ExcC K C5)
    (k0IndexError : PySem.W.kitOne K (.ref C0) (.type "IndexError") = some false)
    (k0KeyError : PySem.W.kitOne K (.ref C0) (.type "KeyError") = some false)
    (k0LookupError : PySem.W.kitOne K (.ref C0) (.type "LookupError") = some true)
    (k0ValueError : PySem.W.kitOne K (.ref C0) (.type "ValueError") = some false)
    (k00 : PySem.W.kitOne K (.ref C0) (.ref C0) = some true)
    (k01 : PySem.W.kitOne K (.ref C0) (.ref C1) = some false)
    (k02 : PySem.W.kitOne K (.ref C0) (.ref C2) = some false)
    (k03 : PySem.W.kitOne K (.ref C0) (.ref C3) = some false)
    (k04 : PySem.W.kitOne K (.ref C0) (.ref C4) = some false)
    (k05 : PySem.W.kitOne K (.ref C0) (.ref C5) = some false)
    (k1IndexError : PySem.W.kitOne K (.ref C1) (.type "IndexError") = some false)
    (k1KeyError : PySem.W.kitOne K (.ref C1) (.type "KeyError") = some false)
    (k1LookupError : PySem.W.kitOne K (.ref C1) (.type "LookupError") = some true)
    (k1ValueError : PySem.W.kitOne K (.ref C1) (.type "ValueError") = some false)
    (k10 : PySem.W.kitOne K (.ref C1) (.ref C0) = some false)
    (k11 : PySem.W.kitOne K (.ref C1) (.ref C1) = some true)
    (k12 : PySem.W.kitOne K (.ref C1) (.ref C2) = some false)
    (k13 : PySem.W.kitOne K (.ref C1) (.ref C3) = some false)
    (k14 : PySem.W.kitOne K (.ref C1) (.ref C4) = some false)
    (k15 : PySem.W.kitOne K (.ref C1) (.ref C5) = some false)
    (k2IndexError : PySem.W.kitOne K (.ref C2) (.type "IndexError") = some false)
    (k2KeyError : PySem.W.kitOne K (.ref C2) (.type "KeyError") = some false)
    (k2LookupError : PySem.W.kitOne K (.ref C2) (.type "LookupError") = some false)
    (k2ValueError : PySem.W.kitOne K (.ref C2) (.type "ValueError") = some true)
    (k20 : PySem.W.kitOne K (.ref C2) (.ref C0) = some false)
    (k21 : PySem.W.kitOne K (.ref C2) (.ref C1) = some false)
    (k22 : PySem.W.kitOne K (.ref C2) (.ref C2) = some true)
    (k23 : PySem.W.kitOne K (.ref C2) (.ref C3) = some false)
    (k24 : PySem.W.kitOne K (.ref C2) (.ref C4) = some false)
    (k25 : PySem.W.kitOne K (.ref C2) (.ref C5) = some false)
    (k3IndexError : PySem.W.kitOne K (.ref C3) (.type "IndexError") = some false)
    (k3KeyError : PySem.W.kitOne K (.ref C3) (.type "KeyError") = some false)
    (k3LookupError : PySem.W.kitOne K (.ref C3) (.type "LookupError") = some false)
    (k3ValueError : PySem.W.kitOne K (.ref C3) (.type "ValueError") = some true)
    (k30 : PySem.W.kitOne K (.ref C3) (.ref C0) = some false)
    (k31 : PySem.W.kitOne K (.ref C3) (.ref C1) = some false)
    (k32 : PySem.W.kitOne K (.ref C3) (.ref C2) = some false)
    (k33 : PySem.W.kitOne K (.ref C3) (.ref C3) = some true)
    (k34 : PySem.W.kitOne K (.ref C3) (.ref C4) = some false)
    (k35 : PySem.W.kitOne K (.ref C3) (.ref C5) = some false)
    (k4IndexError : PySem.W.kitOne K (.ref C4) (.type "IndexError") = some false)
    (k4KeyError : PySem.W.kitOne K (.ref C4) (.type "KeyError") = some false)
    (k4LookupError : PySem.W.kitOne K (.ref C4) (.type "LookupError") = some false)
    (k4ValueError : PySem.W.kitOne K (.ref C4) (.type "ValueError") = some true)
    (k40 : PySem.W.kitOne K (.ref C4) (.ref C0) = some false)
    (k41 : PySem.W.kitOne K (.ref C4) (.ref C1) = some false)
    (k42 : PySem.W.kitOne K (.ref C4) (.ref C2) = some false)
    (k43 : PySem.W.kitOne K (.ref C4) (.ref C3) = some false)
    (k44 : PySem.W.kitOne K (.ref C4) (.ref C4) = some true)
    (k45 : PySem.W.kitOne K (.ref C4) (.ref C5) = some false)
    (k5IndexError : PySem.W.kitOne K (.ref C5) (.type "IndexError") = some false)
    (k5KeyError : PySem.W.kitOne K (.ref C5) (.type "KeyError") = some false)
    (k5LookupError : PySem.W.kitOne K (.ref C5) (.type "LookupError") = some false)
    (k5ValueError : PySem.W.kitOne K (.ref C5) (.type "ValueError") = some true)
    (k50 : PySem.W.kitOne K (.ref C5) (.ref C0) = some false)
    (k51 : PySem.W.kitOne K (.ref C5) (.ref C1) = some false)
    (k52 : PySem.W.kitOne K (.ref C5) (.ref C2) = some false)
    (k53 : PySem.W.kitOne K (.ref C5) (.ref C3) = some false)
    (k54 : PySem.W.kitOne K (.ref C5) (.ref C4) = some false)
    (k55 : PySem.W.kitOne K (.ref C5) (.ref C5) = some true)
    (x00 : PySem.W.exmOne K (.ref C0) (.ref C0) = some true)
    (x20 : PySem.W.exmOne K (.ref C2) (.ref C0) = some false)
    (x22 : PySem.W.exmOne K (.ref C2) (.ref C2) = some true)
    : Px X := by
  have n0 := A0.ns
  have n2 := A2.ns
  subst hK hm
  exact {
    np := ⟨C0, C2, errF_NoPlace KX G rfl rfl A0, errF_BadLine KX G rfl rfl A2, x00, x20, x22⟩
    f_NoPlace := ⟨C0, errF_NoPlace KX G rfl rfl A0⟩
    f_BadLine := ⟨C2, errF_BadLine KX G rfl rfl A2⟩
    z_NothingDone := ⟨C1, ⟨_, _, _, _, PySem.F.excBase_LookupError, q1⟩, PySem.W.mg_of KX G n1, kp1, n1⟩
    z_CanNot := ⟨C3, ⟨_, _, _, _, PySem.F.excBase_ValueError, q3⟩, PySem.W.mg_of KX G n3, kp3, n3⟩
    z_TooMuch := ⟨C4, ⟨_, _, _, _, PySem.F.excBase_ValueError, q4⟩, PySem.W.mg_of KX G n4, kp4, n4⟩
    z_Unfit := ⟨C5, ⟨_, _, _, _, PySem.F.excBase_ValueError, q5⟩, PySem.W.mg_of KX G n5, kp5, n5⟩
    b_IndexError := fun x b h => AllT.get (tb := tb_IndexError) (P := fun x b => ∀ C, PySem.W.nsIn X.K mainGlobals x = some (some (.ref C)) → ExcC X.K C ∧ PySem.W.kitOne X.K (.ref C) (.type "IndexError") = some b) ⟨isF1 n0 e0 k0IndexError, isF1 n1 e1 k1IndexError, isF1 n2 e2 k2IndexError, isF1 n3 e3 k3IndexError, isF1 n4 e4 k4IndexError, isF1 n5 e5 k5IndexError, trivial⟩ x b h
    b_KeyError := fun x b h => AllT.get (tb := tb_KeyError) (P := fun x b => ∀ C, PySem.W.nsIn X.K mainGlobals x = some (some (.ref C)) → ExcC X.K C ∧ PySem.W.kitOne X.K (.ref C) (.type "KeyError") = some b) ⟨isF1 n0 e0 k0KeyError, isF1 n1 e1 k1KeyError, isF1 n2 e2 k2KeyError, isF1 n3 e3 k3KeyError, isF1 n4 e4 k4KeyError, isF1 n5 e5 k5KeyError, trivial⟩ x b h
    b_LookupError := fun x b h => AllT.get (tb := tb_LookupError) (P := fun x b => ∀ C, PySem.W.nsIn X.K mainGlobals x = some (some (.ref C)) → ExcC X.K C ∧ PySem.W.kitOne X.K (.ref C) (.type "LookupError") = some b) ⟨isF1 n0 e0 k0LookupError, isF1 n1 e1 k1LookupError, isF1 n2 e2 k2LookupError, isF1 n3 e3 k3LookupError, isF1 n4 e4 k4LookupError, isF1 n5 e5 k5LookupError, trivial⟩ x b h
    b_ValueError := fun x b h => AllT.get (tb := tb_ValueError) (P := fun x b => ∀ C, PySem.W.nsIn X.K mainGlobals x = some (some (.ref C)) → ExcC X.K C ∧ PySem.W.kitOne X.K (.ref C) (.type "ValueError") = some b) ⟨isF1 n0 e0 k0ValueError, isF1 n1 e1 k1ValueError, isF1 n2 e2 k2ValueError, isF1 n3 e3 k3ValueError, isF1 n4 e4 k4ValueError, isF1 n5 e5 k5ValueError, trivial⟩ x b h
    o_NoPlace := ⟨C0, PySem.W.mg_of KX G n0, fun x b h => AllT.get (tb := tb_NoPlace) (P := fun x b => ∀ C, PySem.W.nsIn X.K mainGlobals x = some (some (.ref C)) → ExcC X.K C ∧ PySem.W.kitOne X.K (.ref C) (.ref C0) = some b) ⟨isF1 n0 e0 k00, isF1 n1 e1 k10, isF1 n2 e2 k20, isF1 n3 e3 k30, isF1 n4 e4 k40, isF1 n5 e5 k50, trivial⟩ x b h⟩
    o_NothingDone := ⟨C1, PySem.W.mg_of KX G n1, fun x b h => AllT.get (tb := tb_NothingDone) (P := fun x b => ∀ C, PySem.W.nsIn X.K mainGlobals x = some (some (.ref C)) → ExcC X.K C ∧ PySem.W.kitOne X.K (.ref C) (.ref C1) = some b) ⟨isF1 n0 e0 k01, isF1 n1 e1 k11, isF1 n2 e2 k21, isF1 n3 e3 k31, isF1 n4 e4 k41, isF1 n5 e5 k51, trivial⟩ x b h⟩
    o_BadLine := ⟨C2, PySem.W.mg_of KX G n2, fun x b h => AllT.get (tb := tb_BadLine) (P := fun x b => ∀ C, PySem.W.nsIn X.K mainGlobals x = some (some (.ref C)) → ExcC X.K C ∧ PySem.W.kitOne X.K (.ref C) (.ref C2) = some b) ⟨isF1 n0 e0 k02, isF1 n1 e1 k12, isF1 n2 e2 k22, isF1 n3 e3 k32, isF1 n4 e4 k42, isF1 n5 e5 k52, trivial⟩ x b h⟩
    o_CanNot := ⟨C3, PySem.W.mg_of KX G n3, fun x b h => AllT.get (tb := tb_CanNot) (P := fun x b => ∀ C, PySem.W.nsIn X.K mainGlobals x = some (some (.ref C)) → ExcC X.K C ∧ PySem.W.kitOne X.K (.ref C) (.ref C3) = some b) ⟨isF1 n0 e0 k03, isF1 n1 e1 k13, isF1 n2 e2 k23, isF1 n3 e3 k33, isF1 n4 e4 k43, isF1 n5 e5 k53, trivial⟩ x b h⟩
    o_TooMuch := ⟨C4, PySem.W.mg_of KX G n4, fun x b h => AllT.get (tb := tb_TooMuch) (P := fun x b => ∀ C, PySem.W.nsIn X.K mainGlobals x = some (some (.ref C)) → ExcC X.K C ∧ PySem.W.kitOne X.K (.ref C) (.ref C4) = some b) ⟨isF1 n0 e0 k04, isF1 n1 e1 k14, isF1 n2 e2 k24, isF1 n3 e3 k34, isF1 n4 e4 k44, isF1 n5 e5 k54, trivial⟩ x b h⟩
    o_Unfit := ⟨C5, PySem.W.mg_of KX G n5, fun x b h => AllT.get (tb := tb_Unfit) (P := fun x b => ∀ C, PySem.W.nsIn X.K mainGlobals x = some (some (.ref C)) → ExcC X.K C ∧ PySem.W.kitOne X.K (.ref C) (.ref C5) = some b) ⟨isF1 n0 e0 k05, isF1 n1 e1 k15, isF1 n2 e2 k25, isF1 n3 e3 k35, isF1 n4 e4 k45, isF1 n5 e5 k55, trivial⟩ x b h⟩
  }
end EVX

open PySem PySem.W PyProof.Rows
set_option maxRecDepth 100000 in
set_option maxHeartbeats 0 in
theorem PySem.Challenge.cw_everysource_k00_errors_holds : PySem.Challenge.rw_everysource_k00_errors.Holds := by
  w_on; o_law; k_head; (case hw => w_witness2)
  k_fill
  refine EV.end_script (l := PySem.Challenge.rw_everysource_k00_errors) (n := 12) (x := "law") (st := EVX.s_law) (N := EVX.N_law) (B := EVX.B) (Z := EVX.Z) (RX := EVX.RX0) (PX := EVX.Px) rfl rfl (fun w h Y => PySem.W.kIn_of Y) rfl (by decide) EVX.rows EVX.sc_law (fun w _ h1 h2 h3 => EVX.law_body h1 h2 h3) EVX.law_binds ?xfun ?xlaw ?xnam ?xerr
  case xfun =>
    intro w
    refine ⟨?xf0, ?xf1, ?xf2, ?xf3, ?xf4, trivial⟩
    (case xf0 => (show EV.FunAt _ "_law_same" EVX.s__law_same; (refine' EV.FunAt.of ?axf0 ?lxf0 ?cxf0 ?kxf0; (case axf0 => k_is); (case lxf0 => k_is); (case cxf0 => k_is); (case kxf0 => k_is))))
    (case xf1 => (show EV.FunAt _ "_law_caught" EVX.s__law_caught; (refine' EV.FunAt.of ?axf1 ?lxf1 ?cxf1 ?kxf1; (case axf1 => k_is); (case lxf1 => k_is); (case cxf1 => k_is); (case kxf1 => k_is))))
    (case xf2 => (show EV.FunAt _ "_law_plain" EVX.s__law_plain; (refine' EV.FunAt.of ?axf2 ?lxf2 ?cxf2 ?kxf2; (case axf2 => k_is); (case lxf2 => k_is); (case cxf2 => k_is); (case kxf2 => k_is))))
    (case xf3 => (show EV.FunAt _ "_law_kinds" EVX.s__law_kinds; (refine' EV.FunAt.of ?axf3 ?lxf3 ?cxf3 ?kxf3; (case axf3 => k_is); (case lxf3 => k_is); (case cxf3 => k_is); (case kxf3 => k_is))))
    (case xf4 => (show EV.FunAt _ "_law_by_hand_right" EVX.s__law_by_hand_right; (refine' EV.FunAt.of ?axf4 ?lxf4 ?cxf4 ?kxf4; (case axf4 => k_is); (case lxf4 => k_is); (case cxf4 => k_is); (case kxf4 => k_is))))
  case xlaw =>
    intro w
    (refine' EV.FunAt.of ?axl ?lxl ?cxl ?kxl; (case axl => k_is); (case lxl => k_is); (case cxl => k_is); (case kxl => k_is))
  case xnam =>
    intro w
    refine ⟨?xz0, ?xz1, ?xz2, ?xz3, ?xz4, ?xz5, ?xz6, ?xz7, ?xz8, ?xz9, ?xz10, ?xz11, ?xz12, ?xz13, ?xz14, ?xz15, ?xz16, ?xz17, ?xz18, ?xz19, trivial⟩
    (case xz0 => (intro r e; cases e; rfl))
    (case xz1 => (intro r e; cases e; rfl))
    (case xz2 => (intro r e; cases e; rfl))
    (case xz3 => (intro r e; cases e; rfl))
    (case xz4 => (intro r e; cases e; rfl))
    (case xz5 => (show PySem.W.nsIn _ mainGlobals "IndexError" = some none; k_is))
    (case xz6 => (show PySem.W.nsIn _ mainGlobals "KeyError" = some none; k_is))
    (case xz7 => (show PySem.W.nsIn _ mainGlobals "LookupError" = some none; k_is))
    (case xz8 => (show PySem.W.nsIn _ mainGlobals "ValueError" = some none; k_is))
    (case xz9 => (show PySem.W.nsIn _ mainGlobals "abs" = some none; k_is))
    (case xz10 => (show PySem.W.nsIn _ mainGlobals "all" = some none; k_is))
    (case xz11 => (show PySem.W.nsIn _ mainGlobals "bool" = some none; k_is))
    (case xz12 => (show PySem.W.nsIn _ mainGlobals "int" = some none; k_is))
    (case xz13 => (show PySem.W.nsIn _ mainGlobals "isinstance" = some none; k_is))
    (case xz14 => (show PySem.W.nsIn _ mainGlobals "len" = some none; k_is))
    (case xz15 => (show PySem.W.nsIn _ mainGlobals "list" = some none; k_is))
    (case xz16 => (show PySem.W.nsIn _ mainGlobals "range" = some none; k_is))
    (case xz17 => (show PySem.W.nsIn _ mainGlobals "str" = some none; k_is))
    (case xz18 => (show PySem.W.nsIn _ mainGlobals "tuple" = some none; k_is))
    (case xz19 => (show PySem.W.nsIn _ mainGlobals "zip" = some none; k_is))
  case xerr =>
    intro w h mg KX G X hK hm
    refine' EVX.px_of KX G hK hm ?yA0 ?yn1 ?yq1 ?ykp1 ?yA2 ?yn3 ?yq3 ?ykp3 ?yn4 ?yq4 ?ykp4 ?yn5 ?yq5 ?ykp5 ?ye0 ?ye1 ?ye2 ?ye3 ?ye4 ?ye5 ?yk0IndexError ?yk0KeyError ?yk0LookupError ?yk0ValueError ?yk00 ?yk01 ?yk02 ?yk03 ?yk04 ?yk05 ?yk1IndexError ?yk1KeyError ?yk1LookupError ?yk1ValueError ?yk10 ?yk11 ?yk12 ?yk13 ?yk14 ?yk15 ?yk2IndexError ?yk2KeyError ?yk2LookupError ?yk2ValueError ?yk20 ?yk21 ?yk22 ?yk23 ?yk24 ?yk25 ?yk3IndexError ?yk3KeyError ?yk3LookupError ?yk3ValueError ?yk30 ?yk31 ?yk32 ?yk33 ?yk34 ?yk35 ?yk4IndexError ?yk4KeyError ?yk4LookupError ?yk4ValueError ?yk40 ?yk41 ?yk42 ?yk43 ?yk44 ?yk45 ?yk5IndexError ?yk5KeyError ?yk5LookupError ?yk5ValueError ?yk50 ?yk51 ?yk52 ?yk53 ?yk54 ?yk55 ?yx00 ?yx20 ?yx22
    (case yA0 => (refine' EV.ErrAt.of ?nsA0 ?clA0 ?ctA0 ?saA0 ?xcA0 ?tyA0 ?kcA0 ?icA0 ?tiA0 ?noA0 ?gaA0 ?ggA0 ?hdA0 ?f1A0 ?f2A0 ?kiA0 ?baA0 ?fiA0; (case nsA0 => k_is); (case clA0 => k_is); (case ctA0 => first | rfl | kernel_rfl); (case saA0 => k_is); (case xcA0 => k_is); (case tyA0 => k_is); (case kcA0 => k_is); (case icA0 => k_is); (case tiA0 => k_is); (case noA0 => k_is); (case gaA0 => k_is); (case ggA0 => k_is); (case hdA0 => k_is); (case f1A0 => k_is); (case f2A0 => k_is); (case kiA0 => k_is); (case baA0 => k_is); (case fiA0 => k_is)))
    (case yn1 => k_is)
    (case yq1 => first | kernel_rfl | kx_is | k_is)
    (case ykp1 => k_is)
    (case yA2 => (refine' EV.ErrAt.of ?nsA2 ?clA2 ?ctA2 ?saA2 ?xcA2 ?tyA2 ?kcA2 ?icA2 ?tiA2 ?noA2 ?gaA2 ?ggA2 ?hdA2 ?f1A2 ?f2A2 ?kiA2 ?baA2 ?fiA2; (case nsA2 => k_is); (case clA2 => k_is); (case ctA2 => first | rfl | kernel_rfl); (case saA2 => k_is); (case xcA2 => k_is); (case tyA2 => k_is); (case kcA2 => k_is); (case icA2 => k_is); (case tiA2 => k_is); (case noA2 => k_is); (case gaA2 => k_is); (case ggA2 => k_is); (case hdA2 => k_is); (case f1A2 => k_is); (case f2A2 => k_is); (case kiA2 => k_is); (case baA2 => k_is); (case fiA2 => k_is)))
    (case yn3 => k_is)
    (case yq3 => first | kernel_rfl | kx_is | k_is)
    (case ykp3 => k_is)
    (case yn4 => k_is)
    (case yq4 => first | kernel_rfl | kx_is | k_is)
    (case ykp4 => k_is)
    (case yn5 => k_is)
    (case yq5 => first | kernel_rfl | kx_is | k_is)
    (case ykp5 => k_is)
    (case ye0 => (constructor <;> k_is))
    (case ye1 => (constructor <;> k_is))
    (case ye2 => (constructor <;> k_is))
    (case ye3 => (constructor <;> k_is))
    (case ye4 => (constructor <;> k_is))
    (case ye5 => (constructor <;> k_is))
    (case yk0IndexError => first | kit_is | k_is | kernel_rfl)
    (case yk0KeyError => first | kit_is | k_is | kernel_rfl)
    (case yk0LookupError => first | kit_is | k_is | kernel_rfl)
    (case yk0ValueError => first | kit_is | k_is | kernel_rfl)
    (case yk00 => first | kit_is | k_is | kernel_rfl)
    (case yk01 => first | kit_is | k_is | kernel_rfl)
    (case yk02 => first | kit_is | k_is | kernel_rfl)
    (case yk03 => first | kit_is | k_is | kernel_rfl)
    (case yk04 => first | kit_is | k_is | kernel_rfl)
    (case yk05 => first | kit_is | k_is | kernel_rfl)
    (case yk1IndexError => first | kit_is | k_is | kernel_rfl)
    (case yk1KeyError => first | kit_is | k_is | kernel_rfl)
    (case yk1LookupError => first | kit_is | k_is | kernel_rfl)
    (case yk1ValueError => first | kit_is | k_is | kernel_rfl)
    (case yk10 => first | kit_is | k_is | kernel_rfl)
    (case yk11 => first | kit_is | k_is | kernel_rfl)
    (case yk12 => first | kit_is | k_is | kernel_rfl)
    (case yk13 => first | kit_is | k_is | kernel_rfl)
    (case yk14 => first | kit_is | k_is | kernel_rfl)
    (case yk15 => first | kit_is | k_is | kernel_rfl)
    (case yk2IndexError => first | kit_is | k_is | kernel_rfl)
    (case yk2KeyError => first | kit_is | k_is | kernel_rfl)
    (case yk2LookupError => first | kit_is | k_is | kernel_rfl)
    (case yk2ValueError => first | kit_is | k_is | kernel_rfl)
    (case yk20 => first | kit_is | k_is | kernel_rfl)
    (case yk21 => first | kit_is | k_is | kernel_rfl)
    (case yk22 => first | kit_is | k_is | kernel_rfl)
    (case yk23 => first | kit_is | k_is | kernel_rfl)
    (case yk24 => first | kit_is | k_is | kernel_rfl)
    (case yk25 => first | kit_is | k_is | kernel_rfl)
    (case yk3IndexError => first | kit_is | k_is | kernel_rfl)
    (case yk3KeyError => first | kit_is | k_is | kernel_rfl)
    (case yk3LookupError => first | kit_is | k_is | kernel_rfl)
    (case yk3ValueError => first | kit_is | k_is | kernel_rfl)
    (case yk30 => first | kit_is | k_is | kernel_rfl)
    (case yk31 => first | kit_is | k_is | kernel_rfl)
    (case yk32 => first | kit_is | k_is | kernel_rfl)
    (case yk33 => first | kit_is | k_is | kernel_rfl)
    (case yk34 => first | kit_is | k_is | kernel_rfl)
    (case yk35 => first | kit_is | k_is | kernel_rfl)
    (case yk4IndexError => first | kit_is | k_is | kernel_rfl)
    (case yk4KeyError => first | kit_is | k_is | kernel_rfl)
    (case yk4LookupError => first | kit_is | k_is | kernel_rfl)
    (case yk4ValueError => first | kit_is | k_is | kernel_rfl)
    (case yk40 => first | kit_is | k_is | kernel_rfl)
    (case yk41 => first | kit_is | k_is | kernel_rfl)
    (case yk42 => first | kit_is | k_is | kernel_rfl)
    (case yk43 => first | kit_is | k_is | kernel_rfl)
    (case yk44 => first | kit_is | k_is | kernel_rfl)
    (case yk45 => first | kit_is | k_is | kernel_rfl)
    (case yk5IndexError => first | kit_is | k_is | kernel_rfl)
    (case yk5KeyError => first | kit_is | k_is | kernel_rfl)
    (case yk5LookupError => first | kit_is | k_is | kernel_rfl)
    (case yk5ValueError => first | kit_is | k_is | kernel_rfl)
    (case yk50 => first | kit_is | k_is | kernel_rfl)
    (case yk51 => first | kit_is | k_is | kernel_rfl)
    (case yk52 => first | kit_is | k_is | kernel_rfl)
    (case yk53 => first | kit_is | k_is | kernel_rfl)
    (case yk54 => first | kit_is | k_is | kernel_rfl)
    (case yk55 => first | kit_is | k_is | kernel_rfl)
    (case yx00 => first | kernel_rfl | k_is)
    (case yx20 => first | kernel_rfl | k_is)
    (case yx22 => first | kernel_rfl | k_is)
#print axioms PySem.Challenge.cw_everysource_k00_errors_holds

