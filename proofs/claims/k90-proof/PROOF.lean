import PyProof.Rows.All
import Wide.All
import OpenK.AllK
import Wide.FinOn
import HandS.TupSets
import KE.KeyNested
import HandS.ForMost
import HandS.ForExc
import HandS.Evl
import HandS.Wide
import HandS.TupAny
import HandS.TupMul
import HandS.Deep
import HandS.Flow
import HandS.ExcInit
import HandS.ExcValue
import HandS.Lambda
import HandS.Zip
import HandS.IsInst
import HandS.CallSlots
import HandS.AnyAll
import HandS.Gcd
import HandS.WordsExc
import HandS.Conv
import HandS.Style
import HandS.GenOver
import HandS.GenList
import PyProof.WalksS
import PyProof.ConsumeS
import KE.SortData
import KE.KDictSum
import KE.KDictCopyH
import HandS.TupLe
import HandS.SetBool
import HandS.DictComp
import KE.KDictKeyed
import HandS.SortKw
import KE.DataAny
import KE.DataMinMax
import KE.KMathGC
import PyProof.P3In
import KE.GoesMore
import KE.GoesEnum
import KE.GoesZip
import HandS.ExcIs
import KE.KExcIs
import HandS.ExcOwn
import KE.KExcInit
import HandS.ExcField
import HandS.TryMany
import HandS.Ends
import HandS.EndTab
import KE.KNest
import PyProof.EnumStmt
import KE.DataMinKey
import HandS.SetFor
import KE.KDictWalk
import HandS.Iter
import HandS.Dict
import PyProof.Rows.TupDisplay
import HandS.Rev
import KE.KRevSl
import KE.SortKeyHeap
import KE.KDictZip
import HandS.TupLen
import KE.KDictPairs
import HandS.DictEq
import KE.KStar
import HandS.Star
import PySem.Challenge.RW_everysource_k90_steady_by_hand_and_what
set_option Elab.async false
set_option linter.all false
set_option maxRecDepth 100000
set_option maxHeartbeats 0
namespace NS
open L2 PySem PySem.Spec PyProof.Rows
section
variable {P : Program} {w : World}
abbrev Els := List (NestedKey × Addr)
def hsh (w : World) (L : Els) : List Int := L.map fun p => p.1.hash w
structure Lies (w : World) (h : Heap) (D : Addr) (L : Els) (xs : Array (Int × Value)) (n : Nat) (t : SetTable) : Prop where
  obj : ∃ o, h.get? D = some o ∧ o.ExactSet ∧ o.data = .set xs n t
  ent : xs.toList = L.map fun p => (p.1.hash w, Value.ref p.2)
  tab : TabOk t (hsh w L)
  nd : (L.map (·.1)).Nodup
  pln : t.plain = true
  led : w.params.followText "set-order" = true ∨ t.led = true
  low : L.length * 5 < t.mask * 3
  few : L.length < 64
variable {A : Around} {E : Value → Shared → Prop} {s : Shared} {D : Addr} {L : Els} {xs : Array (Int × Value)} {n : Nat} {t : SetTable}
theorem ent_size (e : xs.toList = L.map fun p => (p.1.hash w, Value.ref p.2)) : xs.size = L.length := by
  rw [← Array.length_toList, e, List.length_map]
theorem hsh_len : (hsh w L).length = L.length := List.length_map ..
theorem Lies.fit {h : Heap} (R : Lies w h D L xs n t) : t.fits xs.size = true := by
  have a := R.tab.sz
  have b := ent_size R.ent
  have c := R.low
  rw [hsh_len] at a
  simp only [SetTable.fits, SetTable.fill, R.tab.dm, Bool.and_eq_true, beq_iff_eq, decide_eq_true_eq]
  exact ⟨by omega, by show t.place.size + 0 ≤ _; omega⟩
def SetNO (w : World) (D : Addr) (L : Els) : HO := .ext fun h => ∃ xs n t, Lies w h D L xs n t
end
end NS
namespace EV
open L2 PySem
/-- one draw below z, and the urn behind it -/
def takeF (b : Int × Int × Int) (z : Int) : Int × (Int × Int × Int) :=
  if b.1 > 0 then (b.1.fmod z, (b.1.fdiv z, b.2.1, b.2.2))
  else
    let n := b.2.2 + 1
    let once := ((b.2.1 + 48271 * n) * (39373 + n)).fmod 2147483647
    let far := once.fmod 40009 + 7
    let twice := ((once + n + b.2.1.fdiv 1000003) * far).fmod 2147483629
    ((((twice * 48271 + once).fmod 2147483587).fdiv 64).fmod z, (b.1, b.2.1, n))
/-- the urn of a number -/
def boxF (k : Nat) (c : Int) : Int × Int × Int := ((c.natAbs : Int) * (if (c.natAbs : Int) ≥ 10 ^ 18 then 1 else 0), c.fmod 2305843009213693951 + 39373 * 0 + k, 0)
/-- the later numbers, each by its place -/
def addF : Nat → Int → List Int → Int
  | _, c, [] => c
  | i, c, x :: l => addF (i + 1) (c + x * ((i : Int) + 2)) l
def csum : List Int → Int
  | [] => 0
  | c :: l => addF 0 c l
/-- these are the draws to come: below what, which -/
def Draws : Int × Int × Int → List (Nat × Nat) → Prop
  | _, [] => True
  | b, (z, t) :: r => (takeF b z).1 = t ∧ Draws (takeF b z).2 r
inductive D where
  | non | bl (b : Bool) | int (i : Int) | str (x : Str) | tup (l : List D) | lst (r : Nat) | dct (r : Nat) | ty (n : String) | set (r : Nat)
  /-- a list of ints that is never written; one of which only the draws are known -/
  | kls (l : List Int) | scr (k : Nat) (tr : List (Nat × Nat))
  /-- a tuple that surely has no dict of its own -/
  | tpn (l : List D)
inductive Cell where
  | lst (l : List D)
  | frz (l : List D)
  | dct (kvs : List (D × D))
  /-- such a dict that is walked: never written again -/
  | fdc (kvs : List (D × D))
  /-- of ints -/
  | dci (kvs : List (Int × D))
  | fdi (kvs : List (Int × D))
  /-- of ints, of tuples of ints; no two alike -/
  | set (kd : Bool) (l : List D)
  /-- .. of tuples of any depth -/
  | sn (l : List D)
  /-- the number of which the urn is made, the urn: only the draws are known -/
  | crn (k : Nat) (tr : List (Nat × Nat))
  | urn (tr : List (Nat × Nat))
/-- newest first; n is their number -/
structure S where
  n : Nat
  cs : List Cell
def S.get (s : S) (r : Nat) : Option Cell := if r < s.n then s.cs[s.n - 1 - r]? else none
def S.new (s : S) (c : Cell) : S := ⟨s.n + 1, c :: s.cs⟩
def S.put (s : S) (r : Nat) (c : Cell) : S := ⟨s.n, s.cs.set (s.n - 1 - r) c⟩
/-- an own error: its class's name, its field's, what is kept there -/
structure Ex where
  c : Str
  f : Str
  a : Option Int
inductive R (α : Type) where
  | ok (a : α) (s : S)
  | ex (x : Ex) (s : S)
  | no
@[inline] def R.bind {α β : Type} (m : R α) (f : α → S → R β) : R β := match m with
  | .ok a s => f a s
  | .ex x s => .ex x s
  | .no => .no
abbrev FT := Nat → List D → S → R D
abbrev En := List (Option D)
abbrev ME := FT → En → S → R D
abbrev MA := FT → En → S → R (List D)
abbrev MT := FT → En → S → R Bool
inductive Fl where
  | nx (e : En) | rt (d : D) | bk (e : En) | ct (e : En) | xc (x : Ex) (e : En)
abbrev MS := FT → En → S → R Fl
def SqZ (K : PySem.W.Frag) (H : Hp) (a : Addr) (xs : List V) : Prop := (∃ o, H a = some (.frz o (.lst xs))) ∨
  ∃ (o : Obj) (its : Array Value) (n : Nat), K.lookup a = some o ∧ o.cls = .type "list" ∧ o.dict = none ∧ o.data = .seq its n ∧ its.size ≤ sizeLine ∧ Vals xs its.toList
/-- such a tuple -/
def NdT (H : Hp) (a : Addr) (xs : List V) : Prop := ∃ o : Obj, H a = some (.frz o (.tup xs)) ∧ o.dict = none
theorem NdT.sq {K : PySem.W.Frag} {H : Hp} {a : Addr} {xs : List V} (h : NdT H a xs) : SqT K H a xs := by
  obtain ⟨o, h, _⟩ := h
  exact .inl (.inr ⟨o, h⟩)
theorem NdT.mv {H H' : Hp} {a : Addr} {xs : List V} (h : NdT H a xs) (f : ∀ a o u, H a = some (.frz o u) → H' a = some (.frz o u)) : NdT H' a xs := by
  obtain ⟨o, h, q⟩ := h
  exact ⟨o, f _ _ _ h, q⟩
theorem SqZ.sq {K : PySem.W.Frag} {H : Hp} {a : Addr} {xs : List V} (h : SqZ K H a xs) : SqL K H a xs := by
  rcases h with h | h
  · exact .inl (.inr h)
  · exact .inr h
theorem SqZ.mv {K : PySem.W.Frag} {H H' : Hp} {a : Addr} {xs : List V} (h : SqZ K H a xs) (f : ∀ a o u, H a = some (.frz o u) → H' a = some (.frz o u)) : SqZ K H' a xs := by
  rcases h with ⟨o, h⟩ | h
  · exact .inl ⟨o, f _ _ _ h⟩
  · exact .inr h
section
variable (K : PySem.W.Frag) (H : Hp) (ι : List Addr)
mutual
inductive RV : D → V → Prop
  | non : RV .non .non
  | bl (b : Bool) : RV (.bl b) (.bl b)
  | int (i : Int) : RV (.int i) (.int i)
  | str (x : Str) : RV (.str x) (.str x)
  | tup {a : Addr} {ds : List D} {xs : List V} : SqT K H a xs → RVs ds xs → RV (.tup ds) (.ref a)
  | lst {r : Nat} {a : Addr} : ι[r]? = some a → RV (.lst r) (.ref a)
  | dct {r : Nat} {a : Addr} : ι[r]? = some a → RV (.dct r) (.ref a)
  | set {r : Nat} {a : Addr} : ι[r]? = some a → RV (.set r) (.ref a)
  | ty (n : String) : RV (.ty n) (.ty n)
  | kls {l : List Int} {a : Addr} : SqZ K H a (l.map V.int) → RV (.kls l) (.ref a)
  | tpn {a : Addr} {ds : List D} {xs : List V} : NdT H a xs → RVs ds xs → RV (.tpn ds) (.ref a)
  | scr {k : Nat} {tr : List (Nat × Nat)} {a : Addr} (l : List Int) : SqZ K H a (l.map V.int) → l.length ≤ 63 → Draws (boxF k (csum l)) tr → RV (.scr k tr) (.ref a)
inductive RVs : List D → List V → Prop
  | nil : RVs [] []
  | cons {d : D} {v : V} {ds : List D} {vs : List V} : RV d v → RVs ds vs → RVs (d :: ds) (v :: vs)
end
end
/-- later: tuples stay, the addresses are carried on, what no cell speaks of stays -/
structure Fw (K : PySem.W.Frag) (H : Hp) (ι : List Addr) (H' : Hp) (ι' : List Addr) : Prop where
  tup : ∀ a xs, SqT K H a xs → SqT K H' a xs
  ad : ∃ l, ι' = ι ++ l ∧ ∀ a ∈ l, H a = none
  dom : ∀ a, H' a = none → H a = none
  oth : ∀ a o, H a = some o → a ∉ ι → (∀ ps, o ≠ .tbl ps) → H' a = some o
  frz : ∀ a o u, H a = some (.frz o u) → H' a = some (.frz o u)
theorem Fw.refl {K : PySem.W.Frag} {H : Hp} {ι : List Addr} : Fw K H ι H ι := ⟨fun _ _ h => h, ⟨[], by simp, by simp⟩, fun _ h => h, fun _ _ h _ _ => h, fun _ _ _ h => h⟩
theorem Fw.out {K : PySem.W.Frag} {H H' : Hp} {ι ι' : List Addr} (f : Fw K H ι H' ι') {a : Addr} {o : HO} (h : H a = some o) (hn : a ∉ ι) : a ∉ ι' := by
  obtain ⟨l, rfl, hl⟩ := f.ad
  intro hm
  rcases List.mem_append.mp hm with hm | hm
  · exact hn hm
  · have := hl a hm
    rw [h] at this; cases this
theorem Fw.trans {K : PySem.W.Frag} {H H' H'' : Hp} {ι ι' ι'' : List Addr} (a : Fw K H ι H' ι') (b : Fw K H' ι' H'' ι'') : Fw K H ι H'' ι'' := by
  refine ⟨fun _ _ h => b.tup _ _ (a.tup _ _ h), ?_, fun x h => a.dom x (b.dom x h), fun x o h hn ht => b.oth x o (a.oth x o h hn ht) (a.out h hn) ht, fun x o u h => b.frz x o u (a.frz x o u h)⟩
  obtain ⟨l, rfl, hl⟩ := a.ad
  obtain ⟨l', rfl, hl'⟩ := b.ad
  refine ⟨l ++ l', by rw [List.append_assoc], fun x hx => ?_⟩
  rcases List.mem_append.mp hx with hx | hx
  · exact hl x hx
  · exact a.dom x (hl' x hx)
theorem Fw.at {K : PySem.W.Frag} {H H' : Hp} {ι ι' : List Addr} (f : Fw K H ι H' ι') {r : Nat} {a : Addr} (h : ι[r]? = some a) : ι'[r]? = some a := by
  obtain ⟨l, rfl, _⟩ := f.ad
  have hr : r < ι.length := (List.getElem?_eq_some_iff.mp h).1
  rw [List.getElem?_append_left hr]
  exact h
section
variable {K : PySem.W.Frag} {H H' : Hp} {ι ι' : List Addr}
mutual
theorem RV.fw (f : Fw K H ι H' ι') : ∀ {d : D} {v : V}, RV K H ι d v → RV K H' ι' d v
  | _, _, .non => .non
  | _, _, .bl b => .bl b
  | _, _, .int i => .int i
  | _, _, .str x => .str x
  | _, _, .tup h hs => .tup (f.tup _ _ h) (RVs.fw f hs)
  | _, _, .tpn h hs => .tpn (h.mv f.frz) (RVs.fw f hs)
  | _, _, .lst h => .lst (f.at h)
  | _, _, .dct h => .dct (f.at h)
  | _, _, .set h => .set (f.at h)
  | _, _, .ty n => .ty n
  | _, _, .kls h => .kls (h.mv f.frz)
  | _, _, .scr l h1 h2 h3 => .scr l (h1.mv f.frz) h2 h3
theorem RVs.fw (f : Fw K H ι H' ι') : ∀ {ds : List D} {vs : List V}, RVs K H ι ds vs → RVs K H' ι' ds vs
  | _, _, .nil => .nil
  | _, _, .cons h hs => .cons (RV.fw f h) (RVs.fw f hs)
end
mutual
theorem RV.ups (f : ∀ (r : Nat) (a : Addr), ι[r]? = some a → ι'[r]? = some a) : ∀ {d : D} {v : V}, RV K H ι d v → RV K H ι' d v
  | _, _, .non => .non
  | _, _, .bl b => .bl b
  | _, _, .int i => .int i
  | _, _, .str x => .str x
  | _, _, .tup h hs => .tup h (RVs.ups f hs)
  | _, _, .tpn h hs => .tpn h (RVs.ups f hs)
  | _, _, .lst h => .lst (f _ _ h)
  | _, _, .dct h => .dct (f _ _ h)
  | _, _, .set h => .set (f _ _ h)
  | _, _, .ty n => .ty n
  | _, _, .kls h => .kls h
  | _, _, .scr l h1 h2 h3 => .scr l h1 h2 h3
theorem RVs.ups (f : ∀ (r : Nat) (a : Addr), ι[r]? = some a → ι'[r]? = some a) : ∀ {ds : List D} {vs : List V}, RVs K H ι ds vs → RVs K H ι' ds vs
  | _, _, .nil => .nil
  | _, _, .cons h hs => .cons (RV.ups f h) (RVs.ups f hs)
end
mutual
theorem RV.tps (f : ∀ a xs, SqT K H a xs → SqT K H' a xs) (z : ∀ a o u, H a = some (.frz o u) → H' a = some (.frz o u)) : ∀ {d : D} {v : V}, RV K H ι d v → RV K H' ι d v
  | _, _, .non => .non
  | _, _, .bl b => .bl b
  | _, _, .int i => .int i
  | _, _, .str x => .str x
  | _, _, .tup h hs => .tup (f _ _ h) (RVs.tps f z hs)
  | _, _, .tpn h hs => .tpn (h.mv z) (RVs.tps f z hs)
  | _, _, .lst h => .lst h
  | _, _, .dct h => .dct h
  | _, _, .set h => .set h
  | _, _, .ty n => .ty n
  | _, _, .kls h => .kls (h.mv z)
  | _, _, .scr l h1 h2 h3 => .scr l (h1.mv z) h2 h3
theorem RVs.tps (f : ∀ a xs, SqT K H a xs → SqT K H' a xs) (z : ∀ a o u, H a = some (.frz o u) → H' a = some (.frz o u)) : ∀ {ds : List D} {vs : List V}, RVs K H ι ds vs → RVs K H' ι ds vs
  | _, _, .nil => .nil
  | _, _, .cons h hs => .cons (RV.tps f z h) (RVs.tps f z hs)
end
theorem RVs.length : ∀ {ds : List D} {vs : List V}, RVs K H ι ds vs → ds.length = vs.length
  | _, _, .nil => rfl
  | _, _, .cons _ hs => by simp [RVs.length hs]
theorem RVs.get : ∀ {ds : List D} {vs : List V}, RVs K H ι ds vs → ∀ {i : Nat} {d : D}, ds[i]? = some d → ∃ v, vs[i]? = some v ∧ RV K H ι d v
  | _, _, .nil, _, _, e => by simp at e
  | _, _, .cons h _, 0, _, e => by simp at e; subst e; exact ⟨_, rfl, h⟩
  | _, _, .cons _ hs, i + 1, _, e => by
    obtain ⟨v, h1, h2⟩ := RVs.get hs (i := i) (by simpa using e)
    exact ⟨v, by simpa using h1, h2⟩
theorem RVs.append : ∀ {ds es : List D} {vs us : List V}, RVs K H ι ds vs → RVs K H ι es us → RVs K H ι (ds ++ es) (vs ++ us)
  | _, _, _, _, .nil, s => s
  | _, _, _, _, .cons r t, s => .cons r (RVs.append t s)
theorem RVs.set {d : D} {v : V} (r : RV K H ι d v) : ∀ {ds : List D} {vs : List V} (i : Nat), RVs K H ι ds vs → RVs K H ι (ds.set i d) (vs.set i v)
  | _, _, _, .nil => .nil
  | _, _, 0, .cons _ t => .cons r t
  | _, _, i + 1, .cons q t => .cons q (RVs.set r i t)
theorem RVs.take : ∀ {ds : List D} {vs : List V} (n : Nat), RVs K H ι ds vs → RVs K H ι (ds.take n) (vs.take n)
  | _, _, 0, _ => .nil
  | _, _, _ + 1, .nil => .nil
  | _, _, n + 1, .cons r t => .cons r (RVs.take n t)
theorem RVs.drop : ∀ {ds : List D} {vs : List V} (n : Nat), RVs K H ι ds vs → RVs K H ι (ds.drop n) (vs.drop n)
  | _, _, 0, r => r
  | _, _, _ + 1, .nil => .nil
  | _, _, n + 1, .cons _ t => RVs.drop n t
end
def allO {α : Type} : List (Option α) → Option (List α)
  | [] => some []
  | some a :: r => match allO r with
    | some l => some (a :: l)
    | none => none
  | none :: _ => none
/-- a value as a dict's key; texts are none -/
def D.key : Nat → D → Option NestedKey
  | 0, _ => none
  | _ + 1, .non => some .none
  | _ + 1, .bl b => some (.num (if b = true then 1 else 0))
  | _ + 1, .int i => some (.num i)
  | n + 1, .tup l => (allO (l.map (D.key n))).map .tup
  | _ + 1, .str _ => none
  | _ + 1, .lst _ => none
  | _ + 1, .dct _ => none
  | _ + 1, .set _ => none
  | _ + 1, .ty _ => none
  | _ + 1, .kls _ => none
  | _ + 1, .scr _ _ => none
  | _ + 1, .tpn _ => none
/-- an entry as it lies: its key's hash by the world w -/
structure DEnt where
  k : NestedKey
  a : Addr
  v : V
/-- at a lies a dict with these entries, wherever the keys' tuples lie -/
def DAt (w : World) (a : Addr) (l : List DEnt) (h : Heap) : Prop := ∃ xs : List (NestedKey × Addr × Value), Paired (fun (p : DEnt) (q : NestedKey × Addr × Value) => p.k = q.1 ∧ p.a = q.2.1 ∧ RelV p.v q.2.2) l xs ∧
  ∃ o es ep, h.get? a = some o ∧ o.ExactDict ∧ o.data = .dict es ep ∧ es.toList = xs.map (fun x => (⟨x.1.hash w, .ref x.2.1, x.2.2⟩ : DictEntry)) ∧ (xs.map (·.1)).Nodup
theorem DAt.stay {w : World} {a : Addr} {l : List DEnt} {h1 h2 : Heap} (x : DAt w a l h1) (k : ∀ o, h1.get? a = some o → h2.get? a = some o) : DAt w a l h2 := by
  obtain ⟨xs, r, o, es, ep, e, q⟩ := x
  exact ⟨xs, r, o, es, ep, k o e, q⟩
/-- .. and it isn't the interpreter's own table -/
def DAo (w : World) (a : Addr) (l : List DEnt) : HO := .ext fun h => DAt w a l h ∧ (a == sysModules) = false
/-- the entries stand for these pairs -/
def DRel (K : PySem.W.Frag) (H : Hp) (ι : List Addr) : List (D × D) → List DEnt → Prop := Paired fun (p : D × D) (q : DEnt) => p.1.key 8 = some q.k ∧ RV K H ι p.1 (.ref q.a) ∧ RV K H ι p.2 q.v
theorem DRel.imp {K : PySem.W.Frag} {H H' : Hp} {ι ι' : List Addr} (f : ∀ {d : D} {v : V}, RV K H ι d v → RV K H' ι' d v) : ∀ {kvs : List (D × D)} {l : List DEnt}, DRel K H ι kvs l → DRel K H' ι' kvs l
  | _, _, .nil => .nil
  | _, _, .cons ⟨h1, h2, h3⟩ t => .cons ⟨h1, f h2, f h3⟩ (DRel.imp f t)
/-- .. of int keys -/
def IRel (K : PySem.W.Frag) (H : Hp) (ι : List Addr) : List (Int × D) → List (Key × V) → Prop := Paired fun (p : Int × D) (q : Key × V) => q.1 = .inl p.1 ∧ RV K H ι p.2 q.2
theorem IRel.imp {K : PySem.W.Frag} {H H' : Hp} {ι ι' : List Addr} (f : ∀ {d : D} {v : V}, RV K H ι d v → RV K H' ι' d v) : ∀ {kvs : List (Int × D)} {l : List (Key × V)}, IRel K H ι kvs l → IRel K H' ι' kvs l
  | _, _, .nil => .nil
  | _, _, .cons ⟨h1, h2⟩ t => .cons ⟨h1, f h2⟩ (IRel.imp f t)
/-- a set of ints at a, where it lies -/
def SetIO (w : World) (a : Addr) (ks : List Int) : HO := .ext fun h => SetR w h a (fun k => decide (k ∈ ks)) ks.length
/-- some program: the sets of tuples of ints ask for one -/
def P0 : Program := default
/-- a cell stands at its address -/
def CellOk (w : World) (K : PySem.W.Frag) (H : Hp) (ι : List Addr) (c : Cell) (a : Addr) : Prop := match c with
  | .lst l => ∃ xs, H a = some (.lst xs) ∧ RVs K H ι l xs
  | .frz l => ∃ o xs, H a = some (.frz o (.lst xs)) ∧ RVs K H ι l xs
  | .dct kvs => ∃ l, H a = some (DAo w a l) ∧ DRel K H ι kvs l ∧ kvs.length ≤ 100000
  | .fdc kvs => ∃ l o, H a = some (.frz o (DAo w a l)) ∧ DRel K H ι kvs l ∧ kvs.length ≤ 100000
  | .dci kvs => ∃ ks, H a = some (.dK ks) ∧ IRel K H ι kvs ks ∧ kvs.length ≤ 100000
  | .fdi kvs => ∃ ks o, H a = some (.frz o (.dK ks)) ∧ IRel K H ι kvs ks ∧ kvs.length ≤ 100000
  | .set false l => ∃ ks : List Int, l = ks.map .int ∧ ks.Nodup ∧ ks.length < 60 ∧ H a = some (SetIO w a ks)
  | .set true l => ∃ (ks : List (List Int)) (L : List (Addr × List Int)), l = ks.map (fun k => .tup (k.map .int)) ∧ ks.Nodup ∧ ks.length < 60 ∧ (L.map (·.2)).Perm ks ∧ (∀ p ∈ L, SqT K H p.1 (p.2.map V.int)) ∧ H a = some (SetTO P0 w a L)
  | .sn l => ∃ (M : List (D × NestedKey × Addr)) (L : NS.Els), M.map (·.1) = l ∧ (∀ p ∈ M, p.1.key 8 = some p.2.1 ∧ RV K H ι p.1 (.ref p.2.2)) ∧ l.length < 60 ∧ (M.map (·.2)).Perm L ∧ H a = some (NS.SetNO w a L)
  | .crn k tr => ∃ c : Int, H a = some (.lst [.int c]) ∧ Draws (boxF k c) tr
  | .urn tr => ∃ b : Int × Int × Int, H a = some (.lst [.int b.1, .int b.2.1, .int b.2.2]) ∧ Draws b tr ∧ b.2.1.natAbs < 2 ^ 62 ∧ b.2.2.natAbs + tr.length < 2 ^ 20
/-- a code object's table that is tracked -/
def TabH (H : Hp) (P : Addr) : Prop := ∃ ps : Array Value, H P = some (.tbl ps) ∧ TriplesOk ps.toList
/-- what is known beside the cells: a table; what an error that is caught keeps -/
inductive Am where
  | tab (P : Addr)
  | xd (d : Addr) (fs : List (Str × V))
  /-- a table whose code objects all bear one name -/
  | lm (P : Addr) (q : Str)
def Am.ok (H : Hp) (ι : List Addr) : Am → Prop
  | .tab P => TabH H P
  | .xd d fs => H d = some (.xd fs) ∧ d ∉ ι
  | .lm P q => LamX.TabS H P q
/-- the world, and what is known -/
structure Tw where
  w : World
  l : List Am
/-- the store stands for the abstract heap -/
structure RS (K : PySem.W.Frag) (T : Tw) (H : Hp) (ι : List Addr) (s : S) : Prop where
  tab : ∀ P ∈ T.l, P.ok H ι
  n : s.n = s.cs.length
  len : ι.length = s.n
  nd : ι.Nodup
  cell : ∀ r c a, s.get r = some c → ι[r]? = some a → CellOk T.w K H ι c a
def RE (K : PySem.W.Frag) (H : Hp) (ι : List Addr) (e : En) (σ : St) : Prop :=
  e.length = σ.length ∧ ∀ (i : Nat) (d : D), e[i]? = some (some d) → ∃ v, σ[i]? = some (some v) ∧ RV K H ι d v
theorem RE.fw {K : PySem.W.Frag} {H H' : Hp} {ι ι' : List Addr} {e : En} {σ : St} (f : Fw K H ι H' ι') (h : RE K H ι e σ) : RE K H' ι' e σ :=
  ⟨h.1, fun i d q => let ⟨v, a, b⟩ := h.2 i d q; ⟨v, a, b.fw f⟩⟩
theorem RE.set {K : PySem.W.Frag} {H : Hp} {ι : List Addr} {e : En} {σ : St} {d : D} {v : V} (h : RE K H ι e σ) (r : RV K H ι d v) (i : Nat) : RE K H ι (e.set i (some d)) (σ.set i (some v)) := by
  refine ⟨by rw [List.length_set, List.length_set]; exact h.1, fun j d' q => ?_⟩
  rw [List.getElem?_set] at q
  by_cases hij : i = j
  · subst hij
    rw [if_pos rfl] at q
    split at q
    · cases q
      rename_i hl
      exact ⟨v, by rw [List.getElem?_set, if_pos rfl, if_pos (by rw [← h.1]; exact hl)], r⟩
    · cases q
  · rw [if_neg hij] at q
    obtain ⟨v', a, b⟩ := h.2 j d' q
    exact ⟨v', by rw [List.getElem?_set, if_neg hij]; exact a, b⟩
theorem S.get_new {s : S} {c : Cell} (hn : s.n = s.cs.length) (r : Nat) : (s.new c).get r = if r = s.n then some c else s.get r := by
  unfold S.get S.new
  simp only
  by_cases h : r = s.n
  · subst h
    rw [if_pos (by omega), if_pos rfl]
    simp
  · rw [if_neg h]
    by_cases h1 : r < s.n
    · rw [if_pos (by omega), if_pos h1]
      have e : s.n + 1 - 1 - r = (s.n - 1 - r) + 1 := by omega
      rw [e, List.getElem?_cons_succ]
    · rw [if_neg (by omega), if_neg h1]
theorem S.get_put {s : S} {c : Cell} (hn : s.n = s.cs.length) {q : Nat} (hq : q < s.n) (r : Nat) : (s.put q c).get r = if r = q then some c else s.get r := by
  unfold S.get S.put
  simp only
  by_cases h : r = q
  · subst h
    rw [if_pos hq, if_pos rfl, List.getElem?_set_self (by omega)]
  · rw [if_neg h]
    by_cases h1 : r < s.n
    · rw [if_pos h1, if_pos h1, List.getElem?_set_ne (by omega)]
    · rw [if_neg h1, if_neg h1]
theorem S.get_lt {s : S} {r : Nat} {c : Cell} (h : s.get r = some c) : r < s.n := by
  unfold S.get at h
  split at h
  · assumption
  · cases h
theorem CellOk.fw {w : World} {K : PySem.W.Frag} {H H' : Hp} {ι ι' : List Addr} {c : Cell} {a : Addr} (f : Fw K H ι H' ι') (e : H' a = H a) (h : CellOk w K H ι c a) : CellOk w K H' ι' c a := by
  cases c with
  | lst l => obtain ⟨xs, h1, h2⟩ := h; exact ⟨xs, e.trans h1, h2.fw f⟩
  | frz l => obtain ⟨o, xs, h1, h2⟩ := h; exact ⟨o, xs, e.trans h1, h2.fw f⟩
  | dct kvs => obtain ⟨l, h1, h2, h3⟩ := h; exact ⟨l, e.trans h1, h2.imp fun r => r.fw f, h3⟩
  | fdc kvs => obtain ⟨l, o, h1, h2, h3⟩ := h; exact ⟨l, o, e.trans h1, h2.imp fun r => r.fw f, h3⟩
  | dci kvs => obtain ⟨l, h1, h2, h3⟩ := h; exact ⟨l, e.trans h1, h2.imp fun r => r.fw f, h3⟩
  | fdi kvs => obtain ⟨l, o, h1, h2, h3⟩ := h; exact ⟨l, o, e.trans h1, h2.imp fun r => r.fw f, h3⟩
  | set kd l =>
    cases kd with
    | false => obtain ⟨ks, h1, h2, h3, h4⟩ := h; exact ⟨ks, h1, h2, h3, e.trans h4⟩
    | true => obtain ⟨ks, L, h1, h2, h3, h4, h5, h6⟩ := h; exact ⟨ks, L, h1, h2, h3, h4, fun p hp => f.tup _ _ (h5 p hp), e.trans h6⟩
  | sn l => obtain ⟨M, L, h1, h2, h3, h4, h5⟩ := h; exact ⟨M, L, h1, fun p hp => ⟨(h2 p hp).1, (h2 p hp).2.fw f⟩, h3, h4, e.trans h5⟩
  | crn k tr => obtain ⟨c, h1, h2⟩ := h; exact ⟨c, e.trans h1, h2⟩
  | urn tr => obtain ⟨b, h1, h2⟩ := h; exact ⟨b, e.trans h1, h2⟩
theorem CellOk.some {w : World} {K : PySem.W.Frag} {H : Hp} {ι : List Addr} {c : Cell} {a : Addr} (h : CellOk w K H ι c a) : ∃ o, H a = some o ∧ (∀ xs, o ≠ .tup xs) ∧ (∀ ps, o ≠ .tbl ps) ∧ ∀ fs, o ≠ .xd fs := by
  cases c with
  | lst l => obtain ⟨xs, h1, _⟩ := h; exact ⟨_, h1, (fun _ z => nomatch z), (fun _ z => nomatch z), (fun _ z => nomatch z)⟩
  | frz l => obtain ⟨o, xs, h1, _⟩ := h; exact ⟨_, h1, (fun _ z => nomatch z), (fun _ z => nomatch z), (fun _ z => nomatch z)⟩
  | dct kvs => obtain ⟨l, h1, _⟩ := h; exact ⟨_, h1, (fun _ z => nomatch z), (fun _ z => nomatch z), (fun _ z => nomatch z)⟩
  | fdc kvs => obtain ⟨l, o, h1, _⟩ := h; exact ⟨_, h1, (fun _ z => nomatch z), (fun _ z => nomatch z), (fun _ z => nomatch z)⟩
  | dci kvs => obtain ⟨l, h1, _⟩ := h; exact ⟨_, h1, (fun _ z => nomatch z), (fun _ z => nomatch z), (fun _ z => nomatch z)⟩
  | fdi kvs => obtain ⟨l, o, h1, _⟩ := h; exact ⟨_, h1, (fun _ z => nomatch z), (fun _ z => nomatch z), (fun _ z => nomatch z)⟩
  | set kd l =>
    cases kd with
    | false => obtain ⟨ks, _, _, _, h4⟩ := h; exact ⟨_, h4, (fun _ z => nomatch z), (fun _ z => nomatch z), (fun _ z => nomatch z)⟩
    | true => obtain ⟨ks, L, _, _, _, _, _, h6⟩ := h; exact ⟨_, h6, (fun _ z => nomatch z), (fun _ z => nomatch z), (fun _ z => nomatch z)⟩
  | sn l => obtain ⟨M, L, _, _, _, _, h5⟩ := h; exact ⟨_, h5, (fun _ z => nomatch z), (fun _ z => nomatch z), (fun _ z => nomatch z)⟩
  | crn k tr => obtain ⟨c, h1, h2⟩ := h; exact ⟨_, h1, (fun _ z => nomatch z), (fun _ z => nomatch z), (fun _ z => nomatch z)⟩
  | urn tr => obtain ⟨b, h1, h2⟩ := h; exact ⟨_, h1, (fun _ z => nomatch z), (fun _ z => nomatch z), (fun _ z => nomatch z)⟩
/-- a heap with a code object of this name -/
def codeHeap (c : Addr) (q : Str) : Heap := ⟨Array.replicate (c + 1) { cls := .none, data := .fields #[.none, .str q 0] }, {}⟩
theorem codeHeap_at (c : Addr) (q : Str) : (codeHeap c q).get? c = Option.some { cls := .none, data := .fields #[.none, .str q 0] } := by
  unfold codeHeap Heap.get?
  simp [Array.getElem?_replicate]
theorem code_is {c : Addr} {q : Str} {f : Heap → Prop} (h : LamX.CodeO c q = .ext f) : f (codeHeap c q) := by
  unfold LamX.CodeO at h
  have := HO.ext.inj h
  rw [← this]
  exact ⟨_, _, 0, codeHeap_at c q, rfl, rfl⟩
/-- no cell is a code object -/
theorem CellOk.notCode {w : World} {K : PySem.W.Frag} {H : Hp} {ι : List Addr} {c : Cell} {a : Addr} (h : CellOk w K H ι c a) (q : Str) : H a ≠ Option.some (LamX.CodeO a q) := by
  intro z
  have no : ∀ {o : HO}, H a = Option.some o → (∀ f, o ≠ .ext f) → False := fun {o} e n => by
    rw [z] at e
    exact n _ (Option.some.inj e).symm
  cases c with
  | lst l => obtain ⟨xs, h1, _⟩ := h; exact no h1 fun _ z => nomatch z
  | frz l => obtain ⟨o, xs, h1, _⟩ := h; exact no h1 fun _ z => nomatch z
  | dct kvs =>
    obtain ⟨l, h1, _⟩ := h
    rw [z] at h1
    obtain ⟨⟨xs, r, o, es, ep, ho, hd⟩, _⟩ := code_is (Option.some.inj h1)
    rw [codeHeap_at] at ho; cases ho
    simp at hd
  | fdc kvs => obtain ⟨l, o, h1, _⟩ := h; exact no h1 fun _ z => nomatch z
  | dci kvs => obtain ⟨l, h1, _⟩ := h; exact no h1 fun _ z => nomatch z
  | fdi kvs => obtain ⟨l, o, h1, _⟩ := h; exact no h1 fun _ z => nomatch z
  | set kd l =>
    cases kd with
    | false =>
      obtain ⟨ks, _, _, _, h4⟩ := h
      rw [z] at h4
      obtain ⟨o, es, ep, t, ho, _, hd, _⟩ := code_is (Option.some.inj h4)
      rw [codeHeap_at] at ho; cases ho; cases hd
    | true =>
      obtain ⟨ks, L, _, _, _, _, _, h6⟩ := h
      rw [z] at h6
      obtain ⟨es, ep, t, ⟨o, ho, _, hd⟩, _⟩ := (code_is (Option.some.inj h6) : L2.SetT0 P0 w (codeHeap a q) a L).ex
      rw [codeHeap_at] at ho; cases ho; cases hd
  | sn l =>
    obtain ⟨M, L, _, _, _, _, h5⟩ := h
    rw [z] at h5
    obtain ⟨xs, n, t, R⟩ := code_is (Option.some.inj h5)
    obtain ⟨o, ho, _, hd⟩ := R.obj
    rw [codeHeap_at] at ho; cases ho; cases hd
  | crn k tr => obtain ⟨c, h1, h2⟩ := h; exact no h1 fun _ z => nomatch z
  | urn tr => obtain ⟨b, h1, h2⟩ := h; exact no h1 fun _ z => nomatch z
/-- it may be written -/
def Cell.live : Cell → Bool
  | .frz _ => false
  | .fdc _ => false
  | .fdi _ => false
  | _ => true
theorem CellOk.mut {w : World} {K : PySem.W.Frag} {H : Hp} {ι : List Addr} {c : Cell} {a : Addr} (h : CellOk w K H ι c a) (hf : c.live = true) : ∃ o, H a = Option.some o ∧ (∀ xs, o ≠ .tup xs) ∧ (∀ b u, o ≠ .frz b u) := by
  cases c with
  | lst l => obtain ⟨xs, h1, _⟩ := h; exact ⟨_, h1, (fun _ z => nomatch z), (fun _ _ z => nomatch z)⟩
  | frz l => cases hf
  | dct kvs => obtain ⟨l, h1, _⟩ := h; exact ⟨_, h1, (fun _ z => nomatch z), (fun _ _ z => nomatch z)⟩
  | fdc kvs => cases hf
  | dci kvs => obtain ⟨l, h1, _⟩ := h; exact ⟨_, h1, (fun _ z => nomatch z), (fun _ _ z => nomatch z)⟩
  | fdi kvs => cases hf
  | set kd l =>
    cases kd with
    | false => obtain ⟨ks, _, _, _, h4⟩ := h; exact ⟨_, h4, (fun _ z => nomatch z), (fun _ _ z => nomatch z)⟩
    | true => obtain ⟨ks, L, _, _, _, _, _, h6⟩ := h; exact ⟨_, h6, (fun _ z => nomatch z), (fun _ _ z => nomatch z)⟩
  | sn l => obtain ⟨M, L, _, _, _, _, h5⟩ := h; exact ⟨_, h5, (fun _ z => nomatch z), (fun _ _ z => nomatch z)⟩
  | crn k tr => obtain ⟨c, h1, h2⟩ := h; exact ⟨_, h1, (fun _ z => nomatch z), (fun _ _ z => nomatch z)⟩
  | urn tr => obtain ⟨b, h1, h2⟩ := h; exact ⟨_, h1, (fun _ z => nomatch z), (fun _ _ z => nomatch z)⟩
section
variable {K : PySem.W.Frag} {T : Tw} {H H' : Hp} {ι ι' : List Addr} {s : S} {p : Addr} {o : HO}
theorem RS.lt {r : Nat} {a : Addr} (R : RS K T H ι s) (h : ι[r]? = some a) : r < s.n := by
  rw [← R.len]; exact (List.getElem?_eq_some_iff.mp h).1
theorem RS.have {r : Nat} (R : RS K T H ι s) (h : r < s.n) : ∃ c, s.get r = some c := by
  unfold S.get
  rw [if_pos h]
  have : s.n - 1 - r < s.cs.length := by rw [← R.n]; omega
  exact ⟨_, List.getElem?_eq_getElem this⟩
theorem RS.at {r : Nat} {a : Addr} {c : Cell} (R : RS K T H ι s) (h : ι[r]? = some a) (e : s.get r = some c) : CellOk T.w K H ι c a := R.cell r c a e h
theorem RS.off (R : RS K T H ι s) (hp : H p = none) {r : Nat} {a : Addr} (h : ι[r]? = some a) : a ≠ p := by
  obtain ⟨c, hc⟩ := R.have (R.lt h)
  obtain ⟨o, ho, _, _, _⟩ := (R.at h hc).some
  rintro rfl
  rw [hp] at ho; cases ho
theorem sqT_upd {a : Addr} {xs : List V} (hp : ∀ o, H p = some o → (∀ ys, o ≠ .tup ys) ∧ ∀ b ys, o ≠ .frz b (.tup ys)) (h : SqT K H a xs) : SqT K (upd H p o) a xs := by
  rcases h with h | h
  · rcases h with h | ⟨b, h⟩
    · refine .inl (.inl ?_)
      rw [upd_ne (fun z => by subst z; exact (hp _ h).1 _ rfl)]; exact h
    · refine .inl (.inr ⟨b, ?_⟩)
      rw [upd_ne (fun z => by subst z; exact (hp _ h).2 _ _ rfl)]; exact h
  · exact .inr h
theorem upd_none {b : Addr} (h : upd H p o b = none) : H b = none := by
  unfold upd at h
  split at h
  · cases h
  · exact h
theorem Fw.new (hp : H p = none) : Fw K H ι (upd H p o) ι := ⟨fun a xs h => sqT_upd (fun o z => by rw [hp] at z; cases z) h, ⟨[], by simp, by simp⟩, fun _ h => upd_none h, fun a u h _ _ => by rw [upd_ne (ne_of_none h hp)]; exact h, fun a o' u h => by rw [upd_ne (ne_of_none h hp)]; exact h⟩
theorem Fw.newA (hp : H p = none) : Fw K H ι (upd H p o) (ι ++ [p]) := ⟨fun a xs h => sqT_upd (fun o z => by rw [hp] at z; cases z) h, ⟨[p], rfl, fun a ha => by rw [List.mem_singleton.mp ha]; exact hp⟩, fun _ h => upd_none h, fun a u h _ _ => by rw [upd_ne (ne_of_none h hp)]; exact h, fun a o' u h => by rw [upd_ne (ne_of_none h hp)]; exact h⟩
theorem Am.upd {t : Am} {ι' : List Addr} (h1 : ∀ P, t = .tab P → P ≠ p) (h2 : ∀ d fs, t = .xd d fs → d ≠ p ∧ d ∉ ι') (h3 : ∀ P q, t = .lm P q → P ≠ p) (h4 : ∀ c q, H c = some (LamX.CodeO c q) → c ≠ p) (h : t.ok H ι) : t.ok (upd H p o) ι' := by
  cases t with
  | tab P => obtain ⟨ps, k1, k2⟩ := h; exact ⟨ps, by rw [upd_ne (h1 P rfl)]; exact k1, k2⟩
  | xd d fs => exact ⟨by rw [upd_ne (h2 d fs rfl).1]; exact h.1, (h2 d fs rfl).2⟩
  | lm P q =>
    obtain ⟨ps, k1, k2, k3⟩ := h
    refine ⟨ps, by rw [upd_ne (h3 P q rfl)]; exact k1, k2, fun pos cv hc => ?_⟩
    obtain ⟨c, e1, e2⟩ := k3 pos cv hc
    exact ⟨c, e1, by rw [upd_ne (h4 c q e2)]; exact e2⟩
theorem RS.tabsNew (R : RS K T H ι s) (hp : H p = none) (hι : ∀ a ∈ ι', a ∈ ι ∨ a = p) : ∀ P ∈ T.l, P.ok (upd H p o) ι' := fun t ht => by
  have k := R.tab t ht
  refine Am.upd (fun P e z => ?_) (fun d fs e => ?_) (fun P q e z => ?_) (fun c q e z => ?_) k
  · subst e; obtain ⟨ps, k1, _⟩ := k; rw [z, hp] at k1; cases k1
  · subst e
    obtain ⟨k1, k2⟩ := k
    have n : d ≠ p := fun z => by rw [z, hp] at k1; cases k1
    exact ⟨n, fun z => (hι d z).elim k2 n⟩
  · subst e; obtain ⟨ps, k1, _⟩ := k; rw [z, hp] at k1; cases k1
  · rw [z, hp] at e; cases e
theorem RS.tabsPut {r : Nat} {a : Addr} {c : Cell} (R : RS K T H ι s) (e : s.get r = some c) (h : ι[r]? = some a) : ∀ P ∈ T.l, P.ok (upd H a o) ι := fun t ht => by
  have k := R.tab t ht
  obtain ⟨u, hu, n1, n2, n3⟩ := (R.at h e).some
  refine Am.upd (fun P e z => ?_) (fun d fs e => ?_) (fun P q e z => ?_) (fun c q e z => ?_) k
  · subst e; obtain ⟨ps, k1, _⟩ := k; rw [z, hu] at k1; exact n2 ps (Option.some.inj k1)
  · subst e
    obtain ⟨k1, k2⟩ := k
    exact ⟨fun z => by rw [z, hu] at k1; exact n3 fs (Option.some.inj k1), k2⟩
  · subst e; obtain ⟨ps, k1, _⟩ := k; rw [z, hu] at k1; exact n2 ps (Option.some.inj k1)
  · subst z; exact (R.at h ‹_›).notCode q e
/-- a new object that no cell speaks of -/
theorem RS.new (R : RS K T H ι s) (hp : H p = none) : RS K T (upd H p o) ι s where
  tab := R.tabsNew hp fun a h => .inl h
  n := R.n
  len := R.len
  nd := R.nd
  cell := fun r c a e h => (R.cell r c a e h).fw (Fw.new hp) (upd_ne (R.off hp h))
/-- a new cell -/
theorem RS.alloc {c : Cell} (R : RS K T H ι s) (hp : H p = none) (hc : CellOk T.w K (upd H p o) (ι ++ [p]) c p) : RS K T (upd H p o) (ι ++ [p]) (s.new c) where
  tab := R.tabsNew hp fun a h => (List.mem_append.mp h).elim .inl fun h => .inr (List.mem_singleton.mp h)
  n := by show s.n + 1 = _; rw [R.n]; rfl
  len := by rw [List.length_append, R.len]; rfl
  nd := by
    rw [List.nodup_append]
    refine ⟨R.nd, by simp, fun a ha b hb => ?_⟩
    obtain ⟨r, hr⟩ := List.mem_iff_getElem?.mp ha
    rw [List.mem_singleton.mp hb]
    exact R.off hp hr
  cell := fun r d a e h => by
    rw [S.get_new R.n] at e
    by_cases hr : r = s.n
    · rw [if_pos hr] at e
      cases e
      have : a = p := by
        rw [hr, ← R.len] at h
        simpa using h.symm
      subst this
      exact hc
    · rw [if_neg hr] at e
      have hl := S.get_lt e
      have h' : ι[r]? = some a := by
        rw [List.getElem?_append_left (by rw [R.len]; exact hl)] at h
        exact h
      exact (R.cell r d a e h').fw (Fw.newA hp) (upd_ne (R.off hp h'))
/-- a cell written -/
theorem Fw.put {r : Nat} {c : Cell} {a : Addr} (R : RS K T H ι s) (e : s.get r = some c) (hf : c.live = true) (h : ι[r]? = some a) : Fw K H ι (upd H a o) ι := by
  obtain ⟨u', hu', n1, n2⟩ := (R.at h e).mut hf
  refine ⟨fun b xs q => sqT_upd (fun u hu => ?_) q, ⟨[], by simp, by simp⟩, fun _ h => upd_none h, fun b u q hn _ => by rw [upd_ne (fun z => hn (by subst z; exact List.mem_of_getElem? h))]; exact q, fun b o' u q => ?_⟩
  · rw [hu'] at hu; cases hu; exact ⟨n1, fun b xs => n2 b _⟩
  · rw [upd_ne (fun z => by subst z; rw [hu'] at q; exact n2 o' u (Option.some.inj q))]
    exact q
theorem RS.write {r : Nat} {c c' : Cell} {a : Addr} (R : RS K T H ι s) (e : s.get r = some c) (hf : c.live = true) (h : ι[r]? = some a) (hc : CellOk T.w K (upd H a o) ι c' a) : RS K T (upd H a o) ι (s.put r c') where
  tab := R.tabsPut e h
  n := by show s.n = (s.cs.set _ _).length; rw [List.length_set]; exact R.n
  len := R.len
  nd := R.nd
  cell := fun q d b e' h' => by
    rw [S.get_put R.n (S.get_lt e)] at e'
    by_cases hq : q = r
    · subst hq
      rw [if_pos rfl] at e'
      cases e'
      rw [h] at h'
      cases h'
      exact hc
    · rw [if_neg hq] at e'
      have hne : b ≠ a := fun z => by
        subst z
        have h1 := (List.getElem?_eq_some_iff.mp h).1
        have h2 := (List.getElem?_eq_some_iff.mp h').1
        exact hq ((List.getElem?_inj h2 R.nd).mp (h'.trans h.symm))
      exact (R.cell q d b e' h').fw (Fw.put R e hf h) (upd_ne hne)
end
structure Cfg where
  K : PySem.W.Frag
  T : Tw
  F : FT
/-- an error that flies -/
def RXo (K : PySem.W.Frag) (H : Hp) (ι : List Addr) (x : Ex) (c : Value) (od : Option Addr) : Prop := (∃ C, c = .ref C ∧ PySem.W.nsIn K mainGlobals x.c = some (some (.ref C))) ∧ match x.a with
  | none => od = none
  | some i => ∃ d, od = some d ∧ H d = some (.xd [(x.f, .int i)]) ∧ d ∉ ι
/-- what is wanted of an error, at these slots -/
abbrev wat (W : WX) (σ : L2.St) : XK := fun c d H => W c d σ H
def tR {α β : Type} (g : Cfg) (E : XK) (Rl : Hp → List Addr → α → β → Prop) (r : R α) (H : Hp) (ι : List Addr) (Q : β → Hp → Prop) : Prop := match r with
  | .ok d s => ∀ v H' ι', Fw g.K H ι H' ι' → RS g.K g.T H' ι' s → Rl H' ι' d v → Q v H'
  | .ex x s => ∀ c od H' ι', Fw g.K H ι H' ι' → RS g.K g.T H' ι' s → RXo g.K H' ι' x c od → E c od H'
  | .no => False
abbrev tRe (g : Cfg) (E : XK) : R D → Hp → List Addr → VK → Prop := tR g E (RV g.K)
abbrev tRa (g : Cfg) (E : XK) : R (List D) → Hp → List Addr → (List V → Hp → Prop) → Prop := tR g E (RVs g.K)
abbrev tRt (g : Cfg) (E : XK) : R Bool → Hp → List Addr → (Bool → Hp → Prop) → Prop := tR g E fun _ _ a b => a = b
theorem tR.fw {α β : Type} {g : Cfg} {E : XK} {Rl : Hp → List Addr → α → β → Prop} {r : R α} {H H' : Hp} {ι ι' : List Addr} {Q : β → Hp → Prop} (f : Fw g.K H ι H' ι') (h : tR g E Rl r H ι Q) : tR g E Rl r H' ι' Q := by
  cases r with
  | ok d s => exact fun v H2 ι2 f2 => h v H2 ι2 (f.trans f2)
  | ex x s => exact fun c od H2 ι2 f2 => h c od H2 ι2 (f.trans f2)
  | no => exact h
theorem tR.rel {α β : Type} {g : Cfg} {E : XK} {Rl Rl' : Hp → List Addr → α → β → Prop} {r : R α} {H : Hp} {ι : List Addr} {Q : β → Hp → Prop} (h : tR g E Rl r H ι Q) (k : ∀ H' ι' a b, Rl' H' ι' a b → Rl H' ι' a b) : tR g E Rl' r H ι Q := by
  cases r with
  | ok d s => exact fun v H2 ι2 f2 a b => h v H2 ι2 f2 a (k _ _ _ _ b)
  | ex x s => exact h
  | no => exact h
/-- one behind another -/
theorem tR.bind {α β γ δ : Type} {g : Cfg} {E : XK} {Rl : Hp → List Addr → α → β → Prop} {Rl2 : Hp → List Addr → γ → δ → Prop} {r : R α} {f : α → S → R γ} {H : Hp} {ι : List Addr} {Q : δ → Hp → Prop} (h : tR g E Rl2 (r.bind f) H ι Q)
    {Q' : β → Hp → Prop} (k : ∀ d s v H' ι', r = .ok d s → Fw g.K H ι H' ι' → RS g.K g.T H' ι' s → Rl H' ι' d v → tR g E Rl2 (f d s) H' ι' Q → Q' v H') : tR g E Rl r H ι Q' := by
  cases r with
  | ok d s => exact fun v H2 ι2 f2 a b => k d s v H2 ι2 rfl f2 a b (h.fw f2)
  | ex x s => exact h
  | no => exact h
def te (g : Cfg) (W : WX) (m : ME) : TE := fun σ H Q => ∃ ι e s, RS g.K g.T H ι s ∧ RE g.K H ι e σ ∧ tRe g (wat W σ) (m g.F e s) H ι Q
def ta (g : Cfg) (W : WX) (m : MA) : TA := fun σ H Q => ∃ ι e s, RS g.K g.T H ι s ∧ RE g.K H ι e σ ∧ tRa g (wat W σ) (m g.F e s) H ι Q
def tt (g : Cfg) (W : WX) (m : MT) : TT := fun σ H Q => ∃ ι e s, RS g.K g.T H ι s ∧ RE g.K H ι e σ ∧ tRt g (wat W σ) (m g.F e s) H ι Q
/-- a two-place operation by the evaluator -/
def ro (g : Cfg) (f : D → D → S → R D) : R2 := fun x y H Q => ∃ E ι dx dy s, RS g.K g.T H ι s ∧ RV g.K H ι dx x ∧ RV g.K H ι dy y ∧ tRe g E (f dx dy s) H ι Q
def ru (g : Cfg) (f : D → S → R D) : V → Hp → VK → Prop := fun x H Q => ∃ E ι dx s, RS g.K g.T H ι s ∧ RV g.K H ι dx x ∧ tRe g E (f dx s) H ι Q
def rc (g : Cfg) (f : List D → S → R D) : List V → Hp → VK → Prop := fun xs H Q => ∃ E ι ds s, RS g.K g.T H ι s ∧ RVs g.K H ι ds xs ∧ tRe g E (f ds s) H ι Q
theorem PE.imp {X : Cx} {e : PySem.Expr} {t t' : TE} (h : PE X e t) (k : ∀ σ H Q, t' σ H Q → t σ H Q) : PE X e t' := ⟨fun pins s σ H Q I q => h.run pins s σ H Q I (k σ H Q q)⟩
theorem PA.imp {X : Cx} {e : List PySem.Expr} {t t' : TA} (h : PA X e t) (k : ∀ σ H Q, t' σ H Q → t σ H Q) : PA X e t' := ⟨fun pos pins s σ H Q I q => h.run pos pins s σ H Q I (k σ H Q q)⟩
theorem PT.imp {X : Cx} {e : PySem.Expr} {t t' : TT} (h : PT X e t) (k : ∀ σ H Q, t' σ H Q → t σ H Q) : PT X e t' := ⟨fun pins s σ H Q I q => h.run pins s σ H Q I (k σ H Q q)⟩
theorem PW.imp {X : Cx} {e : PySem.Expr} {t t' : TT} (h : PW X e t) (k : ∀ σ H Q, t' σ H Q → t σ H Q) : PW X e t' := ⟨fun wh pins s σ H Q I q => h.run wh pins s σ H Q I (k σ H Q q)⟩
theorem PS.imp {X : Cx} {e : PySem.Stmt} {t t' : TS} (h : PS X e t) (k : ∀ D σ H, t' D σ H → t D σ H) : PS X e t' := ⟨fun pins s σ H D I q => h.run pins s σ H D I (k D σ H q)⟩
theorem PSs.imp {X : Cx} {e : List PySem.Stmt} {t t' : TS} (h : PSs X e t) (k : ∀ D σ H, t' D σ H → t D σ H) : PSs X e t' := ⟨fun pins s σ H D I q => h.run pins s σ H D I (k D σ H q)⟩
def mC (d : D) : ME := fun _ _ s => .ok d s
def mVar (i : Nat) : ME := fun _ e s => match e[i]? with
  | some (some d) => .ok d s
  | _ => .no
def mOp (f : D → D → S → R D) (a b : ME) : ME := fun F e s => (a F e s).bind fun x s1 => (b F e s1).bind fun y s2 => f x y s2
def mUn (f : D → S → R D) (a : ME) : ME := fun F e s => (a F e s).bind fun x s1 => f x s1
def mNil : MA := fun _ _ s => .ok [] s
def mCons (a : ME) (r : MA) : MA := fun F e s => (a F e s).bind fun x s1 => (r F e s1).bind fun xs s2 => .ok (x :: xs) s2
def mCall (f : List D → S → R D) (a : MA) : ME := fun F e s => (a F e s).bind fun xs s1 => f xs s1
def mTup (a : MA) : ME := fun F e s => (a F e s).bind fun xs s1 => if xs.length ≤ 100000 then .ok (.tup xs) s1 else .no
def mkL (xs : List D) (s : S) : R D := if xs.length ≤ 100000 then .ok (.lst s.n) (s.new (.lst xs)) else .no
def mLst (a : MA) : ME := fun F e s => (a F e s).bind mkL
section
variable {X : Cx} {g : Cfg} {E : XK} {W : WX} {a b : PySem.Expr} {ma mb : ME}
theorem e_var {i : Nat} {x : Str} {pos : Pos} (hN : X.N[i]? = some x) (hv : Vis X.env.scope x) (hd : (x == ("__debug__" : Str)) = false) (hcd : (x == ("__classdict__" : Str)) = false) : PE X (.Name x pos) (te g W (mVar i)) :=
  PE.imp (pe_var hN hv hd hcd) fun σ H Q ⟨ι, e, s, R, q, h⟩ => by
    unfold mVar at h
    cases hq : e[i]? with
    | none => rw [hq] at h; exact h.elim
    | some o =>
      cases o with
      | none => rw [hq] at h; exact h.elim
      | some d =>
        rw [hq] at h
        obtain ⟨v, h1, h2⟩ := q.2 i d hq
        exact ⟨v, h1, h v H ι Fw.refl R h2⟩
theorem e_c {d : D} {v : V} (h : PE X a (tC v)) (r : ∀ H ι, RV g.K H ι d v) : PE X a (te g W (mC d)) :=
  PE.imp h fun σ H Q ⟨ι, e, s, R, q, h⟩ => h v H ι Fw.refl R (r H ι)
theorem e_op {op : PySem.Operator} {f : D → D → S → R D} {pos : Pos} (ho : OpR X (binaryOp op) (ro g f)) (ha : PE X a (te g W ma)) (hb : PE X b (te g W mb)) : PE X (.BinOp a op b pos) (te g W (mOp f ma mb)) :=
  PE.imp (pe_op ho ha hb) fun σ H Q ⟨ι, e, s, R, q, h⟩ => ⟨ι, e, s, R, q, tR.bind h fun d s1 v H1 ι1 _ f1 R1 r1 h1 => ⟨ι1, e, s1, R1, q.fw f1, tR.bind h1 fun d2 s2 v2 H2 ι2 _ f2 R2 r2 h2 => ⟨_, ι2, d, d2, s2, R2, r1.fw f2, r2, h2⟩⟩⟩
theorem e_cmp {op : PySem.CmpOp} {f : D → D → S → R D} {pos : Pos} (ho : OpR X (compareOp op) (ro g f)) (ha : PE X a (te g W ma)) (hb : PE X b (te g W mb)) (hm : behindInMarks op b = false) : PE X (.Compare a [op] [b] pos) (te g W (mOp f ma mb)) :=
  PE.imp (pe_cmpR ho ha hb hm) fun σ H Q ⟨ι, e, s, R, q, h⟩ => ⟨ι, e, s, R, q, tR.bind h fun d s1 v H1 ι1 _ f1 R1 r1 h1 => ⟨ι1, e, s1, R1, q.fw f1, tR.bind h1 fun d2 s2 v2 H2 ι2 _ f2 R2 r2 h2 => ⟨_, ι2, d, d2, s2, R2, r1.fw f2, r2, h2⟩⟩⟩
theorem e_un {op : PySem.UnaryOp} {f : D → S → R D} {pos : Pos} (ho : UnR X (unaryOp op) (ru g f)) (ha : PE X a (te g W ma)) : PE X (.UnaryOp op a pos) (te g W (mUn f ma)) :=
  PE.imp (pe_un ho ha) fun σ H Q ⟨ι, e, s, R, q, h⟩ => ⟨ι, e, s, R, q, tR.bind h fun d s1 v H1 ι1 _ f1 R1 r1 h1 => ⟨_, ι1, d, s1, R1, r1, h1⟩⟩
theorem a_nil : PA X [] (ta g W mNil) := PA.imp pa_nil fun σ H Q ⟨ι, e, s, R, q, h⟩ => h [] H ι Fw.refl R .nil
theorem a_cons {es : List PySem.Expr} {mr : MA} (ha : PE X a (te g W ma)) (hr : PA X es (ta g W mr)) (hs : starEach (a :: es) X.env = (false, eval a X.env) :: starEach es X.env) : PA X (a :: es) (ta g W (mCons ma mr)) :=
  PA.imp (pa_cons ha hr hs) fun σ H Q ⟨ι, e, s, R, q, h⟩ => ⟨ι, e, s, R, q, tR.bind h fun d s1 v H1 ι1 _ f1 R1 r1 h1 => ⟨ι1, e, s1, R1, q.fw f1, tR.bind h1 fun ds s2 vs H2 ι2 _ f2 R2 r2 h2 => h2 (v :: vs) H2 ι2 Fw.refl R2 (.cons (r1.fw f2) r2)⟩⟩
theorem le_line {n : Nat} (h : n ≤ 100000) : n ≤ sizeLine := Nat.le_trans h (by decide)
theorem e_tup {es : List PySem.Expr} {mr : MA} {k : Nat} {pos : Pos} (h : PA X es (ta g W mr)) : PE X (.Tuple es k pos) (te g W (mTup mr)) :=
  PE.imp (pe_tup h) fun σ H Q ⟨ι, e, s, R, q, h⟩ => ⟨ι, e, s, R, q, tR.bind h fun ds s1 vs H1 ι1 _ f1 R1 r1 h1 => by
    by_cases hl : ds.length ≤ 100000
    · rw [if_pos hl] at h1
      exact ⟨by rw [← r1.length]; exact le_line hl, fun p hp => h1 _ _ _ (Fw.new hp) (R1.new hp) (.tup (.inl (.inl upd_same)) (r1.fw (Fw.new hp)))⟩
    · rw [if_neg hl] at h1
      exact h1.elim⟩
theorem mkL_ok {ds : List D} {vs : List V} {s : S} {H : Hp} {ι : List Addr} {Q : VK} (R : RS g.K g.T H ι s) (r : RVs g.K H ι ds vs) (h : tRe g E (mkL ds s) H ι Q) : vs.length ≤ sizeLine ∧ ∀ p, H p = none → Q (.ref p) (upd H p (.lst vs)) := by
  unfold mkL at h
  by_cases hl : ds.length ≤ 100000
  · rw [if_pos hl] at h
    refine ⟨by rw [← r.length]; exact le_line hl, fun p hp => h _ _ _ (Fw.newA hp) (R.alloc hp ⟨vs, upd_same, r.fw (Fw.newA hp)⟩) (.lst ?_)⟩
    rw [← R.len]; simp
  · rw [if_neg hl] at h
    exact h.elim
theorem e_lst {es : List PySem.Expr} {mr : MA} {pos : Pos} (h : PA X es (ta g W mr)) : PE X (.List es pos) (te g W (mLst mr)) :=
  PE.imp (pe_lst h) fun σ H Q ⟨ι, e, s, R, q, h⟩ => ⟨ι, e, s, R, q, tR.bind h fun ds s1 vs H1 ι1 _ f1 R1 r1 h1 => mkL_ok R1 r1 h1⟩
end
end EV
namespace EV
open L2 PySem PySem.Spec PyProof.Rows
theorem R.bind_bind {α β γ : Type} (m : R α) (f : α → S → R β) (k : β → S → R γ) : (m.bind f).bind k = m.bind fun x s => (f x s).bind k := by
  cases m <;> rfl
/-- what ties the reading to the place where the code runs; E: what is wanted of an exception -/
structure At (X : Cx) (g : Cfg) (W : WX) : Prop where
  K : X.K = g.K
  w : X.w = g.T.w
  calm : X.calm = true
  un : X.A.units + 200 < cLine
  tk : Takes X W
  po : PassesOwn (model X.prog X.w) X.A X.env X.xe
theorem tR.ite {α β : Type} {g : Cfg} {E : XK} {Rl : Hp → List Addr → α → β → Prop} {c : Prop} {d : Decidable c} {r : R α} {H : Hp} {ι : List Addr} {Q : β → Hp → Prop} (h : tR g E Rl (@ite _ c d r .no) H ι Q) : c ∧ tR g E Rl r H ι Q := by
  by_cases hc : c
  · rw [if_pos hc] at h; exact ⟨hc, h⟩
  · rw [if_neg hc] at h; exact h.elim
theorem tR.of {α β : Type} {g : Cfg} {E : XK} {Rl : Hp → List Addr → α → β → Prop} {d : α} {s : S} {H : Hp} {ι : List Addr} {Q : β → Hp → Prop} {v : β} (h : tR g E Rl (.ok d s) H ι Q) (R : RS g.K g.T H ι s) (r : Rl H ι d v) : Q v H := h v H ι Fw.refl R r
section
variable {X : Cx} {g : Cfg} {E : XK} {W : WX}
def intOp (f : Int → Int → D) : D → D → S → R D
  | .int i, .int j, s => .ok (f i j) s
  | _, _, _ => .no
def intOpC (c : Int → Int → Bool) (f : Int → Int → D) : D → D → S → R D
  | .int i, .int j, s => if c i j = true then .ok (f i j) s else .no
  | _, _, _ => .no
theorem op_int {F : Value → Value → Sem Value} {f : Int → Int → Int} (h : OpR X F (rI0 fun i j => .int (f i j))) : OpR X F (ro g (intOp fun i j => .int (f i j))) := by
  intro pins s σ H x y v u Q I rx ry ⟨E, ι, dx, dy, st, R, qx, qy, q⟩
  cases qx <;> cases qy <;> first | exact q.elim | skip
  exact h pins s σ H _ _ v u Q I rx ry ⟨_, _, rfl, rfl, tR.of q R (.int _)⟩
theorem op_intB {F : Value → Value → Sem Value} {f : Int → Int → Bool} (h : OpR X F (rI0 fun i j => .bl (f i j))) : OpR X F (ro g (intOp fun i j => .bl (f i j))) := by
  intro pins s σ H x y v u Q I rx ry ⟨E, ι, dx, dy, st, R, qx, qy, q⟩
  cases qx <;> cases qy <;> first | exact q.elim | skip
  exact h pins s σ H _ _ v u Q I rx ry ⟨_, _, rfl, rfl, tR.of q R (.bl _)⟩
theorem op_intC {F : Value → Value → Sem Value} {C : Int → Int → Prop} {c : Int → Int → Bool} {f : Int → Int → Int} (h : OpR X F (rI C fun i j => .int (f i j))) (hc : ∀ i j, c i j = true → C i j) : OpR X F (ro g (intOpC c fun i j => .int (f i j))) := by
  intro pins s σ H x y v u Q I rx ry ⟨E, ι, dx, dy, st, R, qx, qy, q⟩
  cases qx <;> cases qy <;> first | exact q.elim | skip
  obtain ⟨h1, q'⟩ := tR.ite q
  exact h pins s σ H _ _ v u Q I rx ry ⟨_, _, rfl, rfl, hc _ _ h1, tR.of q' R (.int _)⟩
/-- the list that may be read -/
def S.seq (s : S) (r : Nat) : Option (List D) := match s.get r with
  | some (.lst l) => some l
  | some (.frz l) => some l
  | _ => none
theorem RS.seq {K : PySem.W.Frag} {T : Tw} {H : Hp} {ι : List Addr} {s : S} {r : Nat} {a : Addr} {l : List D} (R : RS K T H ι s) (h : ι[r]? = some a) (e : s.seq r = some l) : ∃ xs, SqL K H a xs ∧ RVs K H ι l xs := by
  unfold S.seq at e
  split at e
  · rename_i l' hg
    cases e
    obtain ⟨xs, h1, h2⟩ := R.at h hg
    exact ⟨xs, .inl (.inl h1), h2⟩
  · rename_i l' hg
    cases e
    obtain ⟨o, xs, h1, h2⟩ := R.at h hg
    exact ⟨xs, .inl (.inr ⟨o, h1⟩), h2⟩
  · cases e
/-- the list that may be written -/
def S.own (s : S) (r : Nat) : Option (List D) := match s.get r with
  | some (.lst l) => some l
  | _ => none
theorem S.own_get {s : S} {r : Nat} {l : List D} (e : s.own r = some l) : s.get r = some (.lst l) := by
  unfold S.own at e
  split at e
  · rename_i l' hg; cases e; exact hg
  · cases e
theorem RS.own {K : PySem.W.Frag} {T : Tw} {H : Hp} {ι : List Addr} {s : S} {r : Nat} {a : Addr} {l : List D} (R : RS K T H ι s) (h : ι[r]? = some a) (e : s.own r = some l) : ∃ xs, H a = some (.lst xs) ∧ RVs K H ι l xs := R.at h (S.own_get e)
/-- + -/
def addL (s : S) : Option (List D) → Option (List D) → R D
  | some l, some m => mkL (l ++ m) s
  | _, _ => .no
def dAdd : D → D → S → R D
  | .int i, .int j, s => .ok (.int (i + j)) s
  | .tup l, .tup m, s => if l.length + m.length ≤ 100000 then .ok (.tup (l ++ m)) s else .no
  | .lst a, .lst b, s => addL s (s.own a) (s.own b)
  | .str x, .str y, s => if x.length + y.length ≤ 100000 then .ok (.str (x ++ y)) s else .no
  | _, _, _ => .no
theorem o_add (A : At X g W) : OpR X (binaryOp .Add) (ro g dAdd) := by
  have hK := A.K
  intro pins s σ H x y v u Q I rx ry ⟨E, ι, dx, dy, st, R, qx, qy, q⟩
  cases qx with
  | int i =>
    cases qy <;> first | exact q.elim | skip
    exact op_add pins s σ H _ _ v u Q I rx ry ⟨_, _, rfl, rfl, tR.of q R (.int _)⟩
  | tup h1 h2 =>
    cases qy <;> first | exact q.elim | skip
    rename_i a l xs b m ys h3 h4
    obtain ⟨hl, q'⟩ := tR.ite q
    refine op_catA pins s σ H _ _ v u Q I rx ry ⟨a, b, xs, ys, rfl, rfl, by rw [hK]; exact h1, by rw [hK]; exact h3, ?_, fun e => ?_, fun e e2 => ?_, fun e e2 p hp => ?_⟩
    · rw [← h2.length, ← h4.length]; exact le_line hl
    · subst e
      cases h2
      exact tR.of q' R (.tup h3 h4)
    · subst e2
      cases h4
      rw [List.append_nil] at q'
      exact tR.of q' R (.tup h1 h2)
    · exact q' _ _ _ (Fw.new hp) (R.new hp) (.tup (.inl (.inl upd_same)) ((h2.append h4).fw (Fw.new hp)))
  | lst h1 =>
    cases qy <;> first | exact q.elim | skip
    rename_i r a r' b h2
    change tRe g E (addL st (st.own r) (st.own r')) H ι Q at q
    cases ea : st.own r with
    | none => rw [ea] at q; exact q.elim
    | some l =>
      cases eb : st.own r' with
      | none => rw [ea, eb] at q; exact q.elim
      | some m =>
        rw [ea, eb] at q
        obtain ⟨xs, hx, rx'⟩ := R.own h1 ea
        obtain ⟨ys, hy, ry'⟩ := R.own h2 eb
        obtain ⟨z1, z2⟩ := mkL_ok R (rx'.append ry') q
        exact op_cat pins s σ H _ _ v u Q I rx ry ⟨a, b, xs, ys, rfl, rfl, hx, hy, by rw [List.length_append] at z1; exact z1, z2⟩
  | str x =>
    cases qy <;> first | exact q.elim | skip
    obtain ⟨hl, q'⟩ := tR.ite q
    exact op_add_str pins s σ H _ _ v u Q I rx ry ⟨_, _, rfl, rfl, le_line hl, tR.of q' R (.str _)⟩
  | _ => exact q.elim
/-- * -/
def mulOk (i j : Int) : Bool := decide (i.natAbs.log2 + j.natAbs.log2 < 1000000) || decide (j.natAbs < 2 ^ 64)
theorem mulOk_of {i j : Int} (h : mulOk i j = true) : IntMulOk i j := by
  unfold mulOk at h
  rw [Bool.or_eq_true, decide_eq_true_eq, decide_eq_true_eq] at h
  rcases h with h | h
  · exact CMulW.ok (show CMulW i j from h)
  · refine IntMulOk.of_right ?_
    unfold Builtin.Int.intBits
    split
    · omega
    · have hj : j.natAbs ≠ 0 := by
        rename_i hz
        intro e
        exact hz (by rw [beq_iff_eq]; omega)
      have := (Nat.log2_lt hj).mpr h
      omega
theorem op_mulO : OpR X (binaryOp .Mult) (rI (fun i j => mulOk i j = true) fun i j => .int (i * j)) := opI fun _ _ _ _ _ _ _ hc q => PyProof.Rows.mul_int q (mulOk_of hc)
def repL (s : S) (k : Int) : Option (List D) → R D
  | some l => if -(2 ^ 62) ≤ k ∧ k < 2 ^ 62 ∧ l.length * k.toNat ≤ 100000 then mkL (List.replicate k.toNat l).flatten s else .no
  | none => .no
def dMul : D → D → S → R D
  | .int i, .int j, s => if mulOk i j = true then .ok (.int (i * j)) s else .no
  | .lst a, .int k, s => repL s k (s.own a)
  | .tup l, .int k, s => if 2 ≤ k ∧ k ≤ 1000 ∧ l ≠ [] ∧ l.length ≤ 1000 then .ok (.tup (List.replicate k.toNat l).flatten) s else .no
  | _, _, _ => .no
theorem RVs.rep {K : PySem.W.Frag} {H : Hp} {ι : List Addr} {ds : List D} {vs : List V} (h : RVs K H ι ds vs) : ∀ n : Nat, RVs K H ι (List.replicate n ds).flatten (List.replicate n vs).flatten
  | 0 => .nil
  | n + 1 => by
    rw [List.replicate_succ, List.replicate_succ, List.flatten_cons, List.flatten_cons]
    exact h.append (RVs.rep h n)
theorem o_mul (A : At X g W) : OpR X (binaryOp .Mult) (ro g dMul) := by
  have hK := A.K
  intro pins s σ H x y v u Q I rx ry ⟨E, ι, dx, dy, st, R, qx, qy, q⟩
  cases qx with
  | int i =>
    cases qy <;> first | exact q.elim | skip
    obtain ⟨hc, q'⟩ := tR.ite q
    exact op_mulO pins s σ H _ _ v u Q I rx ry ⟨_, _, rfl, rfl, hc, tR.of q' R (.int _)⟩
  | tup h1 h2 =>
    cases qy <;> first | exact q.elim | skip
    rename_i a l xs k
    obtain ⟨⟨a1, a2, a3, a4⟩, q'⟩ := tR.ite q
    have hl := h2.length
    exact op_repT pins s σ H _ _ v u Q I rx ry ⟨a, k, xs, rfl, rfl, by rw [hK]; exact h1, fun e => a3 (List.eq_nil_of_length_eq_zero (by rw [hl, e]; rfl)), a1, a2, by omega,
      fun p hp => q' _ _ _ (Fw.new hp) (R.new hp) (.tup (.inl (.inl upd_same)) ((h2.rep _).fw (Fw.new hp)))⟩
  | lst h1 =>
    cases qy <;> first | exact q.elim | skip
    rename_i r a k
    change tRe g E (repL st k (st.own r)) H ι Q at q
    cases ea : st.own r with
    | none => rw [ea] at q; exact q.elim
    | some l =>
      rw [ea] at q
      obtain ⟨⟨a1, a2, a3⟩, q'⟩ := tR.ite q
      obtain ⟨xs, hx, rx'⟩ := R.own h1 ea
      obtain ⟨z1, z2⟩ := mkL_ok R (rx'.rep k.toNat) q'
      have hl := rx'.length
      exact op_rep pins s σ H _ _ v u Q I rx ry ⟨a, k, xs, rfl, rfl, hx, by omega, by omega, by rw [← hl]; exact le_line a3, z2⟩
  | _ => exact q.elim
def divOk (_ j : Int) : Bool := decide (j ≠ 0 ∧ j.natAbs.log2 < 9000)
theorem op_fdivG : OpR X (binaryOp .FloorDiv) (rI (fun _ j => j ≠ 0 ∧ j.natAbs.log2 < 9000) fun i j => .int (i.fdiv j)) := opI fun i j _ _ _ _ _ hc q =>
  floordiv_int hc.1 q (.inl (PyProof.noPylong_of_log2 hc.2))
theorem o_sub : OpR X (binaryOp .Sub) (ro g (intOp fun i j => .int (i - j))) := op_int op_sub
theorem o_fdiv : OpR X (binaryOp .FloorDiv) (ro g (intOpC divOk fun i j => .int (i.fdiv j))) := op_intC op_fdivG fun _ _ h => of_decide_eq_true h
def modOk (_ j : Int) : Bool := decide (j ≠ 0)
theorem o_mod : OpR X (binaryOp .Mod) (ro g (intOpC modOk fun i j => .int (i.fmod j))) := op_intC op_modN fun _ _ h => of_decide_eq_true h
def powOk (i j : Int) : Bool := decide (0 ≤ j ∧ j ≤ 1000000 ∧ i.natAbs < 2 ^ 64)
theorem o_pow : OpR X (binaryOp .Pow) (ro g (intOpC powOk fun i j => .int (i ^ j.toNat))) := op_intC op_pow fun i j h => (of_decide_eq_true h : 0 ≤ j ∧ j ≤ 1000000 ∧ i.natAbs < 2 ^ 64)
def shrOk (_ j : Int) : Bool := decide (0 ≤ j)
theorem o_shr : OpR X (binaryOp .RShift) (ro g (intOpC shrOk fun i j => .int (i / 2 ^ j.toNat))) := op_intC op_shr fun _ _ h => of_decide_eq_true h
theorem o_and : OpR X (binaryOp .BitAnd) (ro g (intOp fun i j => .int (Builtin.bitAnd i j))) := op_int op_and
def dNeg : D → S → R D
  | .int i, s => .ok (.int (-i)) s
  | _, _ => .no
theorem o_neg : UnR X (unaryOp .USub) (ru g dNeg) := by
  intro pins s σ H x v Q I rx ⟨E, ι, dx, st, R, qx, q⟩
  cases qx <;> first | exact q.elim | skip
  exact un_neg pins s σ H _ v Q I rx ⟨_, rfl, tR.of q R (.int _)⟩
/-- is None -/
def D.isNon : D → Bool
  | .non => true
  | _ => false
theorem isNon_of {K : PySem.W.Frag} {H : Hp} {ι : List Addr} {d : D} {v : V} (h : RV K H ι d v) : decide (v = V.non) = d.isNon := by
  cases h <;> simp [D.isNon]
def dIs : D → D → S → R D
  | x, .non, s => .ok (.bl x.isNon) s
  | _, _, _ => .no
def dIsN : D → D → S → R D
  | x, .non, s => .ok (.bl (!x.isNon)) s
  | _, _, _ => .no
theorem o_is : OpR X (compareOp .Is) (ro g dIs) := by
  intro pins s σ H x y v u Q I rx ry ⟨E, ι, dx, dy, st, R, qx, qy, q⟩
  cases qy <;> first | (cases qx <;> exact q.elim) | skip
  have q' : tRe g E (.ok (.bl dx.isNon) st) H ι Q := by cases dx <;> exact q
  exact op_isN pins s σ H _ _ v u Q I rx ry ⟨rfl, by rw [isNon_of qx]; exact tR.of q' R (.bl _)⟩
theorem o_isN : OpR X (compareOp .IsNot) (ro g dIsN) := by
  intro pins s σ H x y v u Q I rx ry ⟨E, ι, dx, dy, st, R, qx, qy, q⟩
  cases qy <;> first | (cases qx <;> exact q.elim) | skip
  have q' : tRe g E (.ok (.bl (!dx.isNon)) st) H ι Q := by cases dx <;> exact q
  exact op_notN pins s σ H _ _ v u Q I rx ry ⟨rfl, by rw [isNon_of qx]; exact tR.of q' R (.bl _)⟩
def toPy (s : S) : Nat → D → Option PyData
  | 0, _ => none
  | _ + 1, .non => some .none
  | _ + 1, .bl b => some (.bool b)
  | _ + 1, .int i => some (.int i)
  | _ + 1, .str x => if PyData.strOk x = true then some (.str x) else none
  | n + 1, .tup l => (allO (l.map (toPy s n))).map .tuple
  | n + 1, .tpn l => (allO (l.map (toPy s n))).map .tuple
  | n + 1, .lst r => match s.seq r with
    | some l => (allO (l.map (toPy s n))).map .list
    | none => none
  | _ + 1, .dct _ => none
  | _ + 1, .set _ => none
  | _ + 1, .ty _ => none
  | _ + 1, .kls _ => none
  | _ + 1, .scr _ _ => none
theorem allO_dp {K : PySem.W.Frag} {H : Hp} {ι : List Addr} {f : D → Option PyData} (hf : ∀ d v p, RV K H ι d v → f d = some p → Dp K H v p) : ∀ {l : List D} {xs : List V}, RVs K H ι l xs → ∀ ps, allO (l.map f) = some ps → DpAll K H xs ps
  | _, _, .nil, ps, e => by
    cases e
    exact .nil
  | _, _, .cons (d := d) h hs, ps, e => by
    rw [List.map_cons] at e
    cases hd : f d with
    | none => rw [hd] at e; cases e
    | some a =>
      rw [hd] at e
      unfold allO at e
      split at e
      · rename_i l hl
        cases e
        exact .cons (hf _ _ _ h hd) (allO_dp hf hs _ hl)
      · cases e
theorem toPy_dp {K : PySem.W.Frag} {T : Tw} {H : Hp} {ι : List Addr} {s : S} (R : RS K T H ι s) : ∀ (n : Nat) (d : D) (v : V) (p : PyData), RV K H ι d v → toPy s n d = some p → Dp K H v p
  | 0, _, _, _, _, e => by cases e
  | n + 1, d, v, p, h, e => by
    cases h with
    | non => cases e; exact .non
    | bl b => cases e; exact .bl b
    | int i => cases e; exact .int i
    | str x =>
      unfold toPy at e
      split at e
      · cases e; exact .str x
      · cases e
    | @tup a l xs h1 h2 =>
      unfold toPy at e
      obtain ⟨ps, e1, rfl⟩ := Option.map_eq_some_iff.mp e
      exact .tup h1 (allO_dp (toPy_dp R n) h2 ps e1)
    | @tpn a l xs h1 h2 =>
      unfold toPy at e
      obtain ⟨ps, e1, rfl⟩ := Option.map_eq_some_iff.mp e
      exact .tup h1.sq (allO_dp (toPy_dp R n) h2 ps e1)
    | @lst r a h1 =>
      unfold toPy at e
      split at e
      · rename_i l hl
        obtain ⟨ps, e1, rfl⟩ := Option.map_eq_some_iff.mp e
        obtain ⟨xs, hx, hr⟩ := R.seq h1 hl
        exact .lst hx (allO_dp (toPy_dp R n) hr ps e1)
      · cases e
    | dct _ => cases e
    | set _ => cases e
    | ty _ => cases e
    | kls _ => cases e
    | scr _ _ _ _ => cases e
theorem allO_shape {f : D → Option PyData} {n : Nat} (hf : ∀ d p, f d = some p → p.canLay0 = true ∧ p.depth ≤ n) : ∀ {l : List D} {ps : List PyData}, allO (l.map f) = some ps → PyData.canLayAll0 ps = true ∧ PyData.depthAll ps ≤ n
  | [], ps, e => by cases e; exact ⟨by simp [PyData.canLayAll0], by simp [PyData.depthAll]⟩
  | d :: l, ps, e => by
    rw [List.map_cons] at e
    cases hd : f d with
    | none => rw [hd] at e; cases e
    | some a =>
      rw [hd] at e
      unfold allO at e
      split at e
      · rename_i l' hl
        cases e
        obtain ⟨h1, h2⟩ := hf _ _ hd
        obtain ⟨h3, h4⟩ := allO_shape hf hl
        exact ⟨by simp [PyData.canLayAll0, h1, h3], by simp [PyData.depthAll]; omega⟩
      · cases e
theorem toPy_shape {s : S} : ∀ (n : Nat) (d : D) (p : PyData), toPy s n d = some p → p.canLay0 = true ∧ p.depth ≤ n
  | 0, _, _, e => by cases e
  | n + 1, d, p, e => by
    cases d with
    | non => cases e; exact ⟨by simp [PyData.canLay0], by simp [PyData.depth]⟩
    | bl b => cases e; exact ⟨by simp [PyData.canLay0], by simp [PyData.depth]⟩
    | int b => cases e; exact ⟨by simp [PyData.canLay0], by simp [PyData.depth]⟩
    | str x =>
      unfold toPy at e
      split at e
      · rename_i hx; cases e; exact ⟨by simp [PyData.canLay0, hx], by simp [PyData.depth]⟩
      · cases e
    | tup l =>
      unfold toPy at e
      obtain ⟨ps, e1, rfl⟩ := Option.map_eq_some_iff.mp e
      obtain ⟨h1, h2⟩ := allO_shape (toPy_shape n) e1
      exact ⟨by simpa [PyData.canLay0] using h1, by simp [PyData.depth]; omega⟩
    | tpn l =>
      unfold toPy at e
      obtain ⟨ps, e1, rfl⟩ := Option.map_eq_some_iff.mp e
      obtain ⟨h1, h2⟩ := allO_shape (toPy_shape n) e1
      exact ⟨by simpa [PyData.canLay0] using h1, by simp [PyData.depth]; omega⟩
    | lst r =>
      unfold toPy at e
      split at e
      · rename_i l hl
        obtain ⟨ps, e1, rfl⟩ := Option.map_eq_some_iff.mp e
        obtain ⟨h1, h2⟩ := allO_shape (toPy_shape n) e1
        exact ⟨by simpa [PyData.canLay0] using h1, by simp [PyData.depth]; omega⟩
      · cases e
    | dct r => cases e
    | set r => cases e
    | ty r => cases e
    | kls r => cases e
    | scr k r => cases e
theorem toPy_shaped {s : S} {d : D} {p : PyData} (e : toPy s 16 d = some p) : SeqAt.shaped p = true := by
  obtain ⟨h1, h2⟩ := toPy_shape 16 d p e
  unfold SeqAt.shaped
  rw [h1, Bool.true_and]
  exact decide_eq_true (by omega)
def eqO : Option PyData → Option PyData → S → Bool → R D
  | some p, some q, s, n => .ok (.bl (if n then !PyData.eqv p q else PyData.eqv p q)) s
  | _, _, _, _ => .no
def dEq (n : Bool) : D → D → S → R D
  | .int i, .int j, s => .ok (.bl (if n then !(i == j) else i == j)) s
  | x, y, s => eqO (toPy s 16 x) (toPy s 16 y) s n
theorem dEq_data {n : Bool} {x y : D} {s : S} {H : Hp} {ι : List Addr} {Q : VK} {vx vy : V} (R : RS g.K g.T H ι s) (qx : RV g.K H ι x vx) (qy : RV g.K H ι y vy) (q : tRe g E (dEq n x y s) H ι Q) :
    ∃ p r, Dp g.K H vx p ∧ Dp g.K H vy r ∧ SeqAt.shaped p = true ∧ SeqAt.shaped r = true ∧ Q (.bl (if n then !PyData.eqv p r else PyData.eqv p r)) H := by
  have gen : tRe g E (eqO (toPy s 16 x) (toPy s 16 y) s n) H ι Q → ∃ p r, Dp g.K H vx p ∧ Dp g.K H vy r ∧ SeqAt.shaped p = true ∧ SeqAt.shaped r = true ∧ Q (.bl (if n then !PyData.eqv p r else PyData.eqv p r)) H := fun q => by
    cases ex : toPy s 16 x with
    | none => rw [ex] at q; exact q.elim
    | some p =>
      cases ey : toPy s 16 y with
      | none => rw [ex, ey] at q; exact q.elim
      | some r =>
        rw [ex, ey] at q
        exact ⟨p, r, toPy_dp R 16 _ _ _ qx ex, toPy_dp R 16 _ _ _ qy ey, toPy_shaped ex, toPy_shaped ey, tR.of q R (.bl _)⟩
  cases qx with
  | int i =>
    cases qy with
    | int j =>
      refine ⟨.int i, .int j, .int i, .int j, by simp [SeqAt.shaped, PyData.canLay0, PyData.depth], by simp [SeqAt.shaped, PyData.canLay0, PyData.depth], ?_⟩
      have e : PyData.eqv (.int i) (.int j) = (i == j) := by simp [PyData.eqv]
      rw [e]
      exact tR.of q R (.bl _)
    | _ => exact gen q
  | _ => exact gen q
theorem o_eq (A : At X g W) : OpR X (compareOp .Eq) (ro g (dEq false)) := by
  intro pins s σ H x y v u Q I rx ry ⟨E, ι, dx, dy, st, R, qx, qy, q⟩
  obtain ⟨p, r, h1, h2, h3, h4, h5⟩ := dEq_data R qx qy q
  have hu := A.un
  exact op_eqD (by omega) pins s σ H _ _ v u Q I rx ry ⟨p, r, by rw [A.K]; exact h1, by rw [A.K]; exact h2, h3, h4, h5⟩
theorem o_ne (A : At X g W) : OpR X (compareOp .NotEq) (ro g (dEq true)) := by
  intro pins s σ H x y v u Q I rx ry ⟨E, ι, dx, dy, st, R, qx, qy, q⟩
  obtain ⟨p, r, h1, h2, h3, h4, h5⟩ := dEq_data R qx qy q
  have hu := A.un
  exact op_neD (by omega) pins s σ H _ _ v u Q I rx ry ⟨p, r, by rw [A.K]; exact h1, by rw [A.K]; exact h2, h3, h4, h5⟩
def truL : Option (List D) → Option Bool
  | some l => some (!l.isEmpty)
  | none => none
def truD : D → S → Option Bool
  | .non, _ => some false
  | .bl b, _ => some b
  | .int i, _ => some (i != 0)
  | .tup l, _ => some (!l.isEmpty)
  | .tpn l, _ => some (!l.isEmpty)
  | .lst r, s => truL (s.seq r)
  | .str _, _ => none
  | .dct _, _ => none
  | .set _, _ => none
  | .ty _, _ => none
  | .kls _, _ => none
  | .scr _ _, _ => none
theorem RVs.isEmpty {K : PySem.W.Frag} {H : Hp} {ι : List Addr} {l : List D} {xs : List V} (h : RVs K H ι l xs) : l.isEmpty = xs.isEmpty := by
  cases h <;> rfl
theorem tru_of {s : S} {H : Hp} {ι : List Addr} {d : D} {v : V} {k : Bool} (R : RS g.K g.T H ι s) (h : RV g.K H ι d v) (e : truD d s = some k) : TruV g.K v H k := by
  cases h with
  | non => cases e; rfl
  | bl b => cases e; rfl
  | int i => cases e; rfl
  | str x => cases e
  | tup h1 h2 => cases e; exact .inr (.inl ⟨_, h1, by rw [h2.isEmpty]⟩)
  | tpn h1 h2 => cases e; exact .inr (.inl ⟨_, h1.sq, by rw [h2.isEmpty]⟩)
  | @lst r a h1 =>
    change truL (s.seq r) = some k at e
    cases hl : s.seq r with
    | none => rw [hl] at e; cases e
    | some l =>
      rw [hl] at e
      cases e
      obtain ⟨xs, hx, hr⟩ := R.seq h1 hl
      exact .inl ⟨xs, hx, by rw [hr.isEmpty]⟩
  | dct _ => cases e
  | set _ => cases e
  | ty _ => cases e
  | kls _ => cases e
  | scr _ _ _ _ => cases e
/-- go on by a value's truth -/
def onTru {α : Type} (d : D) (s : S) (f : Bool → R α) : R α := match truD d s with
  | some b => f b
  | none => .no
theorem onTru_ok {α β : Type} {Rl : Hp → List Addr → α → β → Prop} {d : D} {s : S} {f : Bool → R α} {H : Hp} {ι : List Addr} {Q : β → Hp → Prop} {v : V} (R : RS g.K g.T H ι s) (h : RV g.K H ι d v) (q : tR g E Rl (onTru d s f) H ι Q) : ∃ k, TruV g.K v H k ∧ tR g E Rl (f k) H ι Q := by
  unfold onTru at q
  cases e : truD d s with
  | none => rw [e] at q; exact q.elim
  | some k => rw [e] at q; exact ⟨k, tru_of R h e, q⟩
def mNot (a : ME) : ME := fun F e s => (a F e s).bind fun x s1 => onTru x s1 fun b => .ok (.bl (!b)) s1
def mAnd (a b : ME) : ME := fun F e s => (a F e s).bind fun x s1 => onTru x s1 fun k => if k then b F e s1 else .ok x s1
def mOr (a b : ME) : ME := fun F e s => (a F e s).bind fun x s1 => onTru x s1 fun k => if k then .ok x s1 else b F e s1
def mIf (c : MT) (a b : ME) : ME := fun F e s => (c F e s).bind fun k s1 => if k then a F e s1 else b F e s1
def asB : D → S → R Bool
  | .bl b, s => .ok b s
  | _, _ => .no
def tBl (a : ME) : MT := fun F e s => (a F e s).bind asB
def tOrM (a b : MT) : MT := fun F e s => (a F e s).bind fun k s1 => if k then .ok true s1 else b F e s1
def tNotM (a : MT) : MT := fun F e s => (a F e s).bind fun k s1 => .ok (!k) s1
variable {a b c : PySem.Expr} {ma mb : ME} {mt mu : MT} {rest : List PySem.Expr} {pos : Pos}
theorem e_not (A : At X g W) (ha : PE X a (te g W ma)) : PE X (.UnaryOp .Not a pos) (te g W (mNot ma)) :=
  PE.imp (pe_notT ha) fun σ H Q ⟨ι, e, s, R, q, h⟩ => ⟨ι, e, s, R, q, tR.bind h fun d s1 v H1 ι1 _ f1 R1 r1 h1 => by
    obtain ⟨k, h2, h3⟩ := onTru_ok R1 r1 h1
    exact ⟨k, by rw [A.K]; exact h2, tR.of h3 R1 (.bl _)⟩⟩
theorem e_one {op : PySem.BoolOp} (ha : PE X a (te g W ma)) : PE X (.BoolOp op [a] pos) (te g W ma) := pe_one ha
theorem e_and (A : At X g W) (ha : PE X a (te g W ma)) (hb : PE X (.BoolOp .And (b :: rest) pos) (te g W mb)) : PE X (.BoolOp .And (a :: b :: rest) pos) (te g W (mAnd ma mb)) :=
  PE.imp (pe_andT ha hb) fun σ H Q ⟨ι, e, s, R, q, h⟩ => ⟨ι, e, s, R, q, tR.bind h fun d s1 v H1 ι1 _ f1 R1 r1 h1 => by
    obtain ⟨k, h2, h3⟩ := onTru_ok R1 r1 h1
    refine ⟨k, by rw [A.K]; exact h2, ?_⟩
    cases k with
    | true => exact ⟨ι1, e, s1, R1, q.fw f1, h3⟩
    | false => exact tR.of h3 R1 r1⟩
theorem e_or (A : At X g W) (ha : PE X a (te g W ma)) (hb : PE X (.BoolOp .Or (b :: rest) pos) (te g W mb)) : PE X (.BoolOp .Or (a :: b :: rest) pos) (te g W (mOr ma mb)) :=
  PE.imp (pe_orT ha hb) fun σ H Q ⟨ι, e, s, R, q, h⟩ => ⟨ι, e, s, R, q, tR.bind h fun d s1 v H1 ι1 _ f1 R1 r1 h1 => by
    obtain ⟨k, h2, h3⟩ := onTru_ok R1 r1 h1
    refine ⟨k, by rw [A.K]; exact h2, ?_⟩
    cases k with
    | false => exact ⟨ι1, e, s1, R1, q.fw f1, h3⟩
    | true => exact tR.of h3 R1 r1⟩
theorem e_if (hc : PT X c (tt g W mt)) (ha : PE X a (te g W ma)) (hb : PE X b (te g W mb)) : PE X (.IfExp c a b pos) (te g W (mIf mt ma mb)) :=
  PE.imp (pe_ifExp hc ha hb) fun σ H Q ⟨ι, e, s, R, q, h⟩ => ⟨ι, e, s, R, q, tR.bind h fun d s1 v H1 ι1 _ f1 R1 r1 h1 => by
    subst r1
    cases d with
    | true => exact ⟨ι1, e, s1, R1, q.fw f1, h1⟩
    | false => exact ⟨ι1, e, s1, R1, q.fw f1, h1⟩⟩
theorem asB_ok {d : D} {s : S} {H : Hp} {ι : List Addr} {Q : Bool → Hp → Prop} {v : V} (R : RS g.K g.T H ι s) (h : RV g.K H ι d v) (q : tRt g E (asB d s) H ι Q) : ∃ k, v = .bl k ∧ Q k H := by
  cases h <;> first | exact q.elim | skip
  exact ⟨_, rfl, tR.of q R rfl⟩
theorem t_cmp {op : PySem.CmpOp} {f : D → D → S → R D} (ho : OpR X (compareOp op) (ro g f)) (ha : PE X a (te g W ma)) (hb : PE X b (te g W mb)) (hm : behindInMarks op b = false) : PT X (.Compare a [op] [b] pos) (tt g W (tBl (mOp f ma mb))) :=
  PT.imp (pt_cmpR ho ha hb hm) fun σ H Q ⟨ι, e, s, R, q, h⟩ => ⟨ι, e, s, R, q, by
    have h' : tRt g (wat W σ) ((ma g.F e s).bind fun x s1 => ((mb g.F e s1).bind fun y s2 => (f x y s2).bind asB)) H ι Q := by
      have := h
      unfold tBl mOp at this
      simp only [EV.R.bind_bind] at this
      exact this
    exact tR.bind h' fun d s1 v H1 ι1 _ f1 R1 r1 h1 => ⟨ι1, e, s1, R1, q.fw f1, tR.bind h1 fun d2 s2 v2 H2 ι2 _ f2 R2 r2 h2 => ⟨wat W σ, ι2, d, d2, s2, R2, r1.fw f2, r2, tR.bind h2 fun d3 s3 v3 H3 ι3 _ f3 R3 r3 h3 => asB_ok R3 r3 h3⟩⟩⟩
theorem t_not (ha : PT X a (tt g W mt)) : PT X (.UnaryOp .Not a pos) (tt g W (tNotM mt)) :=
  PT.imp (pt_not ha) fun σ H Q ⟨ι, e, s, R, q, h⟩ => ⟨ι, e, s, R, q, tR.bind h fun d s1 v H1 ι1 _ f1 R1 r1 h1 => by
    subst r1
    exact tR.of h1 R1 rfl⟩
theorem t_or1 (ha : PT X a (tt g W mt)) : PW X (.BoolOp .Or [a] pos) (tt g W mt) := pw_or1 ha
theorem t_or (ha : PT X a (tt g W mt)) (hb : PW X (.BoolOp .Or (b :: rest) pos) (tt g W mu)) : PW X (.BoolOp .Or (a :: b :: rest) pos) (tt g W (tOrM mt mu)) :=
  PW.imp (pw_or ha hb) fun σ H Q ⟨ι, e, s, R, q, h⟩ => ⟨ι, e, s, R, q, tR.bind h fun d s1 v H1 ι1 _ f1 R1 r1 h1 => by
    subst r1
    cases d with
    | false => exact ⟨ι1, e, s1, R1, q.fw f1, h1⟩
    | true => exact tR.of h1 R1 rfl⟩
end
end EV
namespace EV
open L2 PySem PySem.Spec PyProof.Rows
def tRs (g : Cfg) (W : WX) (r : R Fl) (H : Hp) (ι : List Addr) (D : Ends) : Prop := match r with
  | .ok (.nx e) s => ∀ σ' H' ι', Fw g.K H ι H' ι' → RS g.K g.T H' ι' s → RE g.K H' ι' e σ' → D.nx σ' H'
  | .ok (.rt d) s => ∀ v H' ι', Fw g.K H ι H' ι' → RS g.K g.T H' ι' s → RV g.K H' ι' d v → D.rt v H'
  | .ok (.bk e) s => ∀ σ' H' ι', Fw g.K H ι H' ι' → RS g.K g.T H' ι' s → RE g.K H' ι' e σ' → D.bk σ' H'
  | .ok (.ct e) s => ∀ σ' H' ι', Fw g.K H ι H' ι' → RS g.K g.T H' ι' s → RE g.K H' ι' e σ' → D.ct σ' H'
  | .ok (.xc x e) s => ∀ σ' c od H' ι', Fw g.K H ι H' ι' → RS g.K g.T H' ι' s → RE g.K H' ι' e σ' → RXo g.K H' ι' x c od → W c od σ' H'
  | .ex _ _ => False
  | .no => False
/-- an expression's end, within a statement at these slots -/
def R.st {α : Type} (r : R α) (e : En) (f : α → S → R Fl) : R Fl := match r with
  | .ok a s => f a s
  | .ex x s => .ok (.xc x e) s
  | .no => .no
def ts (g : Cfg) (W : WX) (m : MS) : TS := fun D σ H => ∃ ι e s, RS g.K g.T H ι s ∧ RE g.K H ι e σ ∧ tRs g W (m g.F e s) H ι D
section
variable {g : Cfg} {W : WX} {H H' : Hp} {ι ι' : List Addr} {D D' : Ends}
theorem tRs.fw {r : R Fl} (f : Fw g.K H ι H' ι') (h : tRs g W r H ι D) : tRs g W r H' ι' D := by
  cases r with
  | ok d s =>
    cases d with
    | xc x e => exact fun σ' c od H2 ι2 f2 => h σ' c od H2 ι2 (f.trans f2)
    | _ => exact fun v H2 ι2 f2 => h v H2 ι2 (f.trans f2)
  | ex x s => exact h
  | no => exact h
/-- an expression, then the rest -/
theorem tRs.bind {α β : Type} {Rl : Hp → List Addr → α → β → Prop} {r : R α} {e : En} {σ : L2.St} {f : α → S → R Fl} (h : tRs g W (r.st e f) H ι D) (q : RE g.K H ι e σ) {Q' : β → Hp → Prop}
    (k : ∀ d s v H' ι', r = .ok d s → Fw g.K H ι H' ι' → RS g.K g.T H' ι' s → Rl H' ι' d v → tRs g W (f d s) H' ι' D → Q' v H') : tR g (wat W σ) Rl r H ι Q' := by
  cases r with
  | ok d s => exact fun v H2 ι2 f2 a b => k d s v H2 ι2 rfl f2 a b (h.fw f2)
  | ex x s => exact fun c od H2 ι2 f2 a b => h σ c od H2 ι2 f2 a (q.fw f2) b
  | no => exact h
/-- what must not raise -/
def noEx {α : Type} (r : R α) : R α := match r with
  | .ex _ _ => .no
  | r => r
theorem tR.e0 {α β : Type} {E : XK} {Rl : Hp → List Addr → α → β → Prop} {r : R α} {Q : β → Hp → Prop} (h : tR g E0 Rl r H ι Q) : tR g E Rl r H ι Q := by
  cases r with
  | ok d s => exact h
  | ex x s => exact fun c od H2 ι2 f a b => (h c od H2 ι2 f a b).elim
  | no => exact h
theorem tRs.bindN {α β : Type} {Rl : Hp → List Addr → α → β → Prop} {r : R α} {e : En} {f : α → S → R Fl} (h : tRs g W ((noEx r).st e f) H ι D) {Q' : β → Hp → Prop}
    (k : ∀ d s v H' ι', Fw g.K H ι H' ι' → RS g.K g.T H' ι' s → Rl H' ι' d v → tRs g W (f d s) H' ι' D → Q' v H') : tR g E0 Rl r H ι Q' := by
  cases r with
  | ok d s => exact fun v H2 ι2 f2 a b => k d s v H2 ι2 f2 a b (h.fw f2)
  | ex x s => exact h.elim
  | no => exact h.elim
theorem tRs.ite {c : Prop} {d : Decidable c} {r : R Fl} (h : tRs g W (@ite _ c d r .no) H ι D) : c ∧ tRs g W r H ι D := by
  by_cases hc : c
  · rw [if_pos hc] at h; exact ⟨hc, h⟩
  · rw [if_neg hc] at h; exact h.elim
/-- what a block does -/
def seqF (r : R Fl) (k : En → S → R Fl) : R Fl := match r with
  | .ok (.nx e) s => k e s
  | r => r
def sSeq (a b : MS) : MS := fun F e s => seqF (a F e s) fun e1 s1 => b F e1 s1
def sNil : MS := fun _ e s => .ok (.nx e) s
def sRet (a : ME) : MS := fun F e s => (a F e s).st e fun d s1 => .ok (.rt d) s1
def sDrop (a : ME) : MS := fun F e s => (a F e s).st e fun _ s1 => .ok (.nx e) s1
def sIf (c : MT) (a b : MS) : MS := fun F e s => (c F e s).st e fun k s1 => if k then a F e s1 else b F e s1
end
/-- targets -/
abbrev MG := FT → En → D → S → R En
def gNm (i : Nat) : MG := fun _ e d s => .ok (e.set i (some d)) s
theorem wipe_in {σ : L2.St} {j : Nat} : ∀ {vs : List Nat}, j ∈ vs → (wipe σ vs)[j]? = if j < σ.length then some none else none
  | [], h => by simp at h
  | v :: vs, h => by
    unfold wipe
    by_cases hv : v = j
    · subst hv
      rw [List.getElem?_set, if_pos rfl, wipe_length]
    · rw [List.getElem?_set_ne hv]
      exact wipe_in ((List.mem_cons.mp h).resolve_left fun e => hv e.symm)
theorem wipe_set {σ : L2.St} {i : Nat} {x : Option V} {vs : List Nat} (h : i ∈ vs) : wipe (σ.set i x) vs = wipe σ vs := by
  refine List.ext_getElem? fun j => ?_
  by_cases hj : j ∈ vs
  · rw [wipe_in hj, wipe_in hj, List.length_set]
  · rw [wipe_out hj, wipe_out hj, List.getElem?_set_ne (fun e : i = j => hj (e ▸ h))]
/-- vs: the slots that may be set -/
def gs (g : Cfg) (vs : List Nat) (m : MG) : TG := fun v σ H Q => ∃ ι e s d, RS g.K g.T H ι s ∧ RE g.K H ι e σ ∧ RV g.K H ι d v ∧ tR g E0 (fun H' ι' e' σ' => RE g.K H' ι' e' σ' ∧ wipe σ' vs = wipe σ vs) (m g.F e d s) H ι Q
abbrev MGs := FT → En → List D → S → R En
def gsNil : MGs := fun _ e ds s => match ds with
  | [] => .ok e s
  | _ => .no
def gsCons (m : MG) (r : MGs) : MGs := fun F e ds s => match ds with
  | d :: ds => (m F e d s).bind fun e1 s1 => r F e1 ds s1
  | [] => .no
def gss (g : Cfg) (ws : List Nat) (m : MGs) : TGs := fun vs σ H Q => ∃ ι e s ds, RS g.K g.T H ι s ∧ RE g.K H ι e σ ∧ RVs g.K H ι ds vs ∧ tR g E0 (fun H' ι' e' σ' => RE g.K H' ι' e' σ' ∧ wipe σ' ws = wipe σ ws) (m g.F e ds s) H ι Q
def unpk (n : Nat) (d : D) (s : S) : R (List D) := match d with
  | .tup ds => if ds.length = n then .ok ds s else .no
  | .lst r => match s.seq r with
    | some ds => if ds.length = n then .ok ds s else .no
    | none => .no
  | _ => .no
def gTp (n : Nat) (m : MGs) : MG := fun F e d s => (unpk n d s).bind fun ds s1 => m F e ds s1
def sAsg (a : ME) (m : MG) : MS := fun F e s => (a F e s).st e fun d s1 => (noEx (m F e d s1)).st e fun e1 s2 => .ok (.nx e1) s2
section
variable {X : Cx} {g : Cfg} {E : XK} {W : WX} {a b : PySem.Expr} {ma mb : ME} {mt : MT} {pos : Pos} {st : PySem.Stmt} {rest : List PySem.Stmt} {m mr : MS} {ws : List Nat}
theorem PG.imp {e : PySem.Expr} {t t' : TG} (h : PG X e t) (k : ∀ v σ H Q, t' v σ H Q → t v σ H Q) : PG X e t' := ⟨fun pins s σ H v u Q I r q => h.run pins s σ H v u Q I r (k v σ H Q q)⟩
theorem PGs.imp {e : List PySem.Expr} {t t' : TGs} (h : PGs X e t) (k : ∀ v σ H Q, t' v σ H Q → t v σ H Q) : PGs X e t' := ⟨fun pins s σ H v u Q I r q => h.run pins s σ H v u Q I r (k v σ H Q q)⟩
theorem PG.or {e : PySem.Expr} {t t' : TG} (h : PG X e t) (h' : PG X e t') : PG X e (fun v σ H Q => t v σ H Q ∨ t' v σ H Q) := ⟨fun pins s σ H v u Q I r q => by
  rcases q with q | q
  · exact h.run pins s σ H v u Q I r q
  · exact h'.run pins s σ H v u Q I r q⟩
theorem g_name {i : Nat} {x : Str} (hw : i ∈ ws) (hN : X.N.Nodup) (hi : X.N[i]? = some x) (hx : Loc X.env.scope x) (hf : X.fn x = true ∨ X.env.scope.names.lookup x = some .local) : PG X (.Name x pos) (gs g ws (gNm i)) :=
  PG.imp (pg_name hN hi hx hf) fun v σ H Q ⟨ι, e, s, d, R, q, r, h⟩ => h _ H ι Fw.refl R ⟨q.set r i, wipe_set hw⟩
theorem gs_nil : PGs X [] (gss g ws gsNil) := PGs.imp pgs_nil fun v σ H Q ⟨ι, e, s, d, R, q, r, h⟩ => by
  cases r with
  | nil => exact ⟨rfl, h _ H ι Fw.refl R ⟨q, rfl⟩⟩
  | cons _ _ => exact h.elim
theorem gs_cons {es : List PySem.Expr} {m : MG} {r : MGs} (h1 : PG X a (gs g ws m)) (h2 : PGs X es (gss g ws r)) (hs : (assignEach (a :: es) X.env).map (·.2) = assign a X.env :: (assignEach es X.env).map (·.2)) : PGs X (a :: es) (gss g ws (gsCons m r)) :=
  PGs.imp (pgs_cons h1 h2 hs) fun v σ H Q ⟨ι, e, s, ds, R, q, rv, h⟩ => by
    cases rv with
    | nil => exact h.elim
    | @cons d v ds vs r1 r2 =>
      exact ⟨v, vs, rfl, ι, e, s, d, R, q, r1, tR.bind h fun e1 s1 σ1 H1 ι1 _ f1 R1 q1 h1 => ⟨ι1, e1, s1, ds, R1, q1.1, r2.fw f1, h1.rel fun H' ι' e' σ' k => ⟨k.1, k.2.trans q1.2⟩⟩⟩
theorem g_tup (A : At X g W) {es : List PySem.Expr} {k n : Nat} {m : MGs} (h : PGs X es (gss g ws m)) (hn : (assignEach es X.env).length = n) (hst : (assignEach es X.env).findIdx? (·.1) = none) : PG X (.Tuple es k pos) (gs g ws (gTp n m)) :=
  PG.imp (PG.or (pg_tup A.calm h hn hst) (pg_lst A.calm h hn hst)) fun v σ H Q ⟨ι, e, s, d, R, q, r, h⟩ => by
    cases r with
    | @tup a ds xs r1 r2 =>
      have h' : tR g E0 _ ((if ds.length = n then EV.R.ok ds s else EV.R.no).bind fun ds s1 => m g.F e ds s1) H ι Q := h
      by_cases hl : ds.length = n
      · rw [if_pos hl] at h'
        exact .inl ⟨a, xs, rfl, by rw [A.K]; exact r1, by rw [← r2.length]; exact hl, ι, e, s, ds, R, q, r2, h'⟩
      · rw [if_neg hl] at h'
        exact h'.elim
    | @lst r a r1 =>
      have h' : tR g E0 _ ((match s.seq r with | some ds => (if ds.length = n then EV.R.ok ds s else EV.R.no) | none => EV.R.no).bind fun ds s1 => m g.F e ds s1) H ι Q := h
      cases hs : s.seq r with
      | none => rw [hs] at h'; exact h'.elim
      | some ds =>
        rw [hs] at h'
        by_cases hl : ds.length = n
        · simp only [if_pos hl] at h'
          obtain ⟨xs, hx, hr⟩ := R.seq r1 hs
          exact .inr ⟨a, xs, rfl, by rw [A.K]; exact hx, by rw [← hr.length]; exact hl, ι, e, s, ds, R, q, hr, h'⟩
        · simp only [if_neg hl] at h'
          exact h'.elim
    | _ => exact h.elim
theorem s_nil : PSs X [] (ts g W sNil) := PSs.imp pss_nil fun D σ H ⟨ι, e, s, R, q, h⟩ => h σ H ι Fw.refl R q
theorem s_cons (h1 : PS X st (ts g W m)) (h2 : PSs X rest (ts g W mr)) : PSs X (st :: rest) (ts g W (sSeq m mr)) :=
  PSs.imp (pss_cons h1 h2) fun D σ H ⟨ι, e, s, R, q, h⟩ => ⟨ι, e, s, R, q, by
    unfold sSeq seqF at h
    split at h
    · rename_i e1 s1 h1
      rw [h1]
      exact fun σ' H' ι' f R' q' => ⟨ι', e1, s1, R', q', h.fw f⟩
    · rename_i r hr
      revert h
      cases hm : m g.F e s with
      | ok d s1 =>
        intro h
        cases d with
        | nx e1 => exact absurd hm (hr e1 s1)
        | _ => exact h
      | ex x s1 => intro h; exact h
      | no => intro h; exact h⟩
theorem s_one (h1 : PS X st (ts g W m)) : PSs X [st] (ts g W m) := pss_one h1
theorem s_ret (ha : PE X a (te g W ma)) : PS X (.Return (some a) pos) (ts g W (sRet ma)) :=
  PS.imp (ps_ret ha) fun D σ H ⟨ι, e, s, R, q, h⟩ => ⟨ι, e, s, R, q, tRs.bind h q fun d s1 v H1 ι1 _ f1 R1 r1 h1 => h1 v H1 ι1 Fw.refl R1 r1⟩
theorem s_expr (ha : PE X a (te g W ma)) (hs : swapsWith a none pos.line X.env = pure false) : PS X (.Expr a pos) (ts g W (sDrop ma)) :=
  PS.imp (ps_expr ha hs) fun D σ H ⟨ι, e, s, R, q, h⟩ => ⟨ι, e, s, R, q, tRs.bind h q fun d s1 v H1 ι1 _ f1 R1 r1 h1 => h1 σ H1 ι1 Fw.refl R1 (q.fw f1)⟩
theorem s_if {c : PySem.Expr} {x y : List PySem.Stmt} {mx my : MS} (hc : PT X c (tt g W mt)) (hx : PSs X x (ts g W mx)) (hy : PSs X y (ts g W my)) : PS X (.If c x y pos) (ts g W (sIf mt mx my)) :=
  PS.imp (ps_if hc hx hy) fun D σ H ⟨ι, e, s, R, q, h⟩ => ⟨ι, e, s, R, q, tRs.bind h q fun d s1 v H1 ι1 _ f1 R1 r1 h1 => by
    subst r1
    cases d with
    | true => exact ⟨ι1, e, s1, R1, q.fw f1, h1⟩
    | false => exact ⟨ι1, e, s1, R1, q.fw f1, h1⟩⟩
theorem s_asg {mg : MG} (ha : PE X a (te g W ma)) (hg : PG X b (gs g ws mg)) (hs : swapsWithSole [b] a pos.line X.env = pure false) (hw : swappedStores [b] a X.env = pure none)
    (h1 : (assignEach [b] X.env).map (·.2) = [assign b X.env]) : PS X (.Assign [b] a pos) (ts g W (sAsg ma mg)) :=
  PS.imp (ps_asg ha hg hs hw h1) fun D σ H ⟨ι, e, s, R, q, h⟩ => ⟨ι, e, s, R, q, tRs.bind h q fun d s1 v H1 ι1 _ f1 R1 r1 h1 => ⟨ι1, e, s1, d, R1, q.fw f1, r1, tRs.bindN h1 fun e2 s2 σ2 H2 ι2 f2 R2 q2 h2 => h2 σ2 H2 ι2 Fw.refl R2 q2.1⟩⟩
end
def whileF (c : MT) (b : MS) : Nat → FT → En → S → R Fl
  | 0, _, _, _ => .no
  | n + 1, F, e, s => (c F e s).st e fun k s1 => if k then (match b F e s1 with
      | .ok (.nx e2) s2 => whileF c b n F e2 s2
      | .ok (.ct e2) s2 => whileF c b n F e2 s2
      | .ok (.bk e2) s2 => .ok (.nx e2) s2
      | r => r) else .ok (.nx e) s1
def sWhile (c : MT) (b : MS) : MS := fun F e s => whileF c b 100000 F e s
section
variable {X : Cx} {g : Cfg} {E : XK} {W : WX} {pos : Pos}
theorem s_while {c : PySem.Expr} {body : List PySem.Stmt} {mt : MT} {mb : MS} (hp : PassesOwn (model X.prog X.w) X.A X.env X.xe) (hc : PT X c (tt g W mt)) (hb : PSs X body (ts g W mb)) : PS X (.While c body [] pos) (ts g W (sWhile mt mb)) :=
  PS.imp (ps_while hp hc hb) fun D σ H ⟨ι, e, s, R, q, h⟩ => by
    refine ⟨fun m σ H => ∃ ι e s, RS g.K g.T H ι s ∧ RE g.K H ι e σ ∧ tRs g W (whileF mt mb m g.F e s) H ι D, ⟨100000, ι, e, s, R, q, h⟩, ?_⟩
    rintro m σ H ⟨ι, e, s, R, q, h⟩
    cases m with
    | zero => exact h.elim
    | succ n =>
      refine ⟨ι, e, s, R, q, tRs.bind h q fun k s1 v H1 ι1 _ f1 R1 r1 h1 => ?_⟩
      subst r1
      cases k with
      | false => exact h1 σ H1 ι1 Fw.refl R1 (q.fw f1)
      | true =>
        refine ⟨fun σ H => ∃ ι e s, RS g.K g.T H ι s ∧ RE g.K H ι e σ ∧ tRs g W (whileF mt mb n g.F e s) H ι D, fun σ' H' w => ⟨n, Nat.lt_succ_self n, w⟩, ι1, e, s1, R1, q.fw f1, ?_⟩
        rw [if_pos rfl] at h1
        cases hm : mb g.F e s1 with
        | ok d s2 =>
          rw [hm] at h1
          cases d with
          | nx e2 => exact fun σ' H' ι' f' R' q' => ⟨ι', e2, s2, R', q', h1.fw f'⟩
          | ct e2 => exact fun σ' H' ι' f' R' q' => ⟨ι', e2, s2, R', q', h1.fw f'⟩
          | bk e2 => exact h1
          | rt d => exact h1
          | xc x e2 => exact h1
        | ex x s2 => rw [hm] at h1; exact h1
        | no => rw [hm] at h1; exact h1
end
end EV
namespace EV
open L2 PySem PySem.Spec PyProof.Rows
/-- the next choice of combinations -/
def nextC (n : Nat) (ix : List Nat) : Option (List Nat) := match (List.range ix.length).reverse.find? fun i => ix.getD i 0 != i + n - ix.length with
  | none => none
  | some i => some (ix.take i ++ (List.range (ix.length - i)).map (ix.getD i 0 + 1 + ·))
def ixAt (n r : Nat) : Nat → Option (List Nat)
  | 0 => if r > n then none else some (List.range r)
  | i + 1 => (ixAt n r i).bind (nextC n)
inductive Src where
  | cmb (l : List D) (r : Nat) | itD (r : Nat) | itI (r : Nat) | rgD (lo : Int) (n : Nat)
  | tup (l : List D) | lst (r : Nat) | rng (lo : Int) (n : Nat) | enL (r : Nat) | enT (l : List D) | zipT (l m : List D) | zipL (r q : Nat) | zipM (x y : D) | rvL (r n : Nat)
def pairO (a b : Option D) : Option D := match a, b with
  | some x, some y => some (.tup [x, y])
  | _, _ => none
def atL (l : Option (List D)) (i : Nat) : Option (Option D) := match l with
  | some l => some l[i]?
  | none => none
def seqD (s : S) : D → Option (List D)
  | .tup l => some l
  | .lst r => s.seq r
  | _ => none
def Src.at (q : Src) (s : S) (i : Nat) : Option (Option D) := match q with
  | .cmb l r => some ((ixAt l.length r i).map fun ix => .tup (ix.map fun j => l.getD j .non))
  | .itD r => match s.get r with
    | some (.fdc kvs) => some (kvs[i]?.map fun p => .tup [p.1, p.2])
    | _ => none
  | .itI r => match s.get r with
    | some (.fdi kvs) => some (kvs[i]?.map fun p => .tup [.int p.1, p.2])
    | _ => none
  | .rgD lo n => some (if i < n then some (.int (lo - i)) else none)
  | .tup l => some l[i]?
  | .lst r => atL (s.seq r) i
  | .rng lo n => some (if i < n then some (.int (lo + i)) else none)
  | .enL r => match atL (s.seq r) i with
    | some (some d) => some (some (.tup [.int i, d]))
    | o => o
  | .enT l => match l[i]? with
    | some d => some (some (.tup [.int i, d]))
    | none => some none
  | .zipT l m => some (pairO l[i]? m[i]?)
  | .rvL r n => if i < n then (match s.seq r with
      | some l => (match l[n - 1 - i]? with
        | some d => some (some d)
        | none => none)
      | none => none) else some none
  | .zipM x y => match seqD s x, seqD s y with
    | some l, some m => some (pairO l[i]? m[i]?)
    | _, _ => none
  | .zipL r q => match atL (s.seq r) i, atL (s.seq q) i with
    | some a, some b => some (pairO a b)
    | _, _ => none
def SrcOk (g : Cfg) (H0 : Hp) (ι0 : List Addr) (q : Src) (J : It) : Prop := ∀ H ι s, Fw g.K H0 ι0 H ι → RS g.K g.T H ι s → ∀ i,
  (q.at s i = some none → J.stop i H) ∧ ∀ d, q.at s i = some (some d) → J.go i H ∧ ∀ x H', J.yld i H x H' → Fw g.K H ι H' ι ∧ RS g.K g.T H' ι s ∧ RV g.K H' ι d x
abbrev MI := FT → En → S → R Src
def ti (g : Cfg) (W : WX) (m : MI) : TI := fun σ H Q => ∃ ι e s, RS g.K g.T H ι s ∧ RE g.K H ι e σ ∧ tR g (wat W σ) (SrcOk g) (m g.F e s) H ι Q
section
variable {g : Cfg} {H : Hp} {ι : List Addr}
theorem src_tup {a : Addr} {l : List D} {xs : List V} (h : SqT g.K H a xs) (r : RVs g.K H ι l xs) : SrcOk g H ι (.tup l) (Itt g.K a) := by
  intro H1 ι1 s f R i
  have h1 := f.tup _ _ h
  have r1 := r.fw f
  have hl := r1.length
  refine ⟨fun e => ⟨xs, h1, ?_⟩, fun d e => ?_⟩
  · have e' : l[i]? = none := Option.some.inj e
    have := List.getElem?_eq_none_iff.mp e'
    omega
  · have e' : l[i]? = some d := Option.some.inj e
    obtain ⟨v, hv, rv⟩ := r1.get e'
    refine ⟨⟨xs, v, h1, hv⟩, fun x H' y => ?_⟩
    obtain ⟨rfl, y⟩ := y
    have z := y xs h1
    rw [hv] at z
    cases z
    exact ⟨Fw.refl, R, rv⟩
theorem src_lst {a : Addr} {r : Nat} (h : ι[r]? = some a) : SrcOk g H ι (.lst r) (Itl g.K a) := by
  intro H1 ι1 s f R i
  have h1 := f.at h
  have key : ∀ o, atL (s.seq r) i = some o → ∃ l xs, o = l[i]? ∧ SqL g.K H1 a xs ∧ RVs g.K H1 ι1 l xs := fun o e => by
    cases hs : s.seq r with
    | none => rw [hs] at e; cases e
    | some l =>
      rw [hs] at e
      obtain ⟨xs, h2, h3⟩ := R.seq h1 hs
      exact ⟨l, xs, (Option.some.inj e).symm, h2, h3⟩
  refine ⟨fun e => ?_, fun d e => ?_⟩
  · obtain ⟨l, xs, e', h2, h3⟩ := key _ e
    have hl := h3.length
    have := List.getElem?_eq_none_iff.mp e'.symm
    exact ⟨xs, h2, by omega⟩
  · obtain ⟨l, xs, e', h2, h3⟩ := key _ e
    obtain ⟨v, hv, rv⟩ := h3.get e'.symm
    refine ⟨⟨xs, v, h2, hv⟩, fun x H' y => ?_⟩
    obtain ⟨rfl, y⟩ := y
    have z := y xs h2
    rw [hv] at z
    cases z
    exact ⟨Fw.refl, R, rv⟩
theorem src_rng {lo : Int} {n : Nat} : SrcOk g H ι (.rng lo n) (Itr lo n) := by
  intro H1 ι1 s f R i
  refine ⟨fun e => ?_, fun d e => ?_⟩
  · have e' : (if i < n then some (D.int (lo + i)) else none) = none := Option.some.inj e
    split at e'
    · cases e'
    · show n ≤ i
      omega
  · have e' : (if i < n then some (D.int (lo + i)) else none) = some d := Option.some.inj e
    split at e'
    · cases e'
      rename_i hi
      refine ⟨hi, fun x H' y => ?_⟩
      obtain ⟨rfl, rfl⟩ := y
      exact ⟨Fw.refl, R, .int _⟩
    · cases e'
theorem pair_ok {H1 : Hp} {ι1 : List Addr} {s : S} {d1 d2 : D} {v1 v2 x : V} {H' : Hp} (R : RS g.K g.T H1 ι1 s) (r1 : RV g.K H1 ι1 d1 v1) (r2 : RV g.K H1 ι1 d2 v2) {T : Addr} (hx : x = .ref T) (hT : H1 T = none) (hH : H' = upd H1 T (.tup [v1, v2])) :
    Fw g.K H1 ι1 H' ι1 ∧ RS g.K g.T H' ι1 s ∧ RV g.K H' ι1 (.tup [d1, d2]) x := by
  subst hx hH
  exact ⟨Fw.new hT, R.new hT, .tup (.inl (.inl upd_same)) (.cons (r1.fw (Fw.new hT)) (.cons (r2.fw (Fw.new hT)) .nil))⟩
theorem src_enL {a : Addr} {r : Nat} (h : ι[r]? = some a) : SrcOk g H ι (.enL r) (Ite g.K a) := by
  intro H1 ι1 s f R i
  have h1 := f.at h
  have key : ∀ o, atL (s.seq r) i = some o → ∃ l xs, o = l[i]? ∧ SqL g.K H1 a xs ∧ RVs g.K H1 ι1 l xs := fun o e => by
    cases hs : s.seq r with
    | none => rw [hs] at e; cases e
    | some l =>
      rw [hs] at e
      obtain ⟨xs, h2, h3⟩ := R.seq h1 hs
      exact ⟨l, xs, (Option.some.inj e).symm, h2, h3⟩
  cases ha : atL (s.seq r) i with
  | none => exact ⟨fun e => by simp [Src.at, ha] at e, fun d e => by simp [Src.at, ha] at e⟩
  | some o =>
    obtain ⟨l, xs, e', h2, h3⟩ := key _ ha
    cases o with
    | none =>
      refine ⟨fun _ => ?_, fun d e => by simp [Src.at, ha] at e⟩
      have hl := h3.length
      have := List.getElem?_eq_none_iff.mp e'.symm
      exact ⟨xs, h2, by omega⟩
    | some d0 =>
      refine ⟨fun e => by simp [Src.at, ha] at e, fun d e => ?_⟩
      have e2 : D.tup [.int i, d0] = d := by simpa [Src.at, ha] using e
      subst e2
      obtain ⟨v, hv, rv⟩ := h3.get e'.symm
      refine ⟨⟨xs, v, h2, hv⟩, fun x H' y => ?_⟩
      obtain ⟨T, x0, y1, y2, y3, y4⟩ := y
      have z := y4 xs h2
      rw [hv] at z
      cases z
      exact pair_ok R (.int _) rv y1 y2 y3
theorem pairO_none {α : Type} {a b : Option D} (h : pairO a b = none) : a = none ∨ b = none := by
  cases a with
  | none => exact .inl rfl
  | some x => cases b with
    | none => exact .inr rfl
    | some y => cases h
theorem pairO_some {a b : Option D} {d : D} (h : pairO a b = some d) : ∃ x y, a = some x ∧ b = some y ∧ d = .tup [x, y] := by
  cases a with
  | none => cases h
  | some x => cases b with
    | none => cases h
    | some y => cases h; exact ⟨x, y, rfl, rfl, rfl⟩
end
def rng1 : List D → S → R Src
  | [.int j], s => if -(2 ^ 62) ≤ j ∧ j < 2 ^ 62 then .ok (.rng 0 j.toNat) s else .no
  | _, _ => .no
def rng2 : List D → S → R Src
  | [.int i, .int j], s => if -(2 ^ 62) ≤ i ∧ i < 2 ^ 62 ∧ -(2 ^ 62) ≤ j ∧ j < 2 ^ 62 then .ok (.rng i (j - i).toNat) s else .no
  | _, _ => .no
def enumS : List D → S → R Src
  | [.lst r], s => match s.seq r with
    | some _ => .ok (.enL r) s
    | none => .no
  | _, _ => .no
def iArgs (f : List D → S → R Src) (a : MA) : MI := fun F e s => (a F e s).bind f
section
variable {X : Cx} {g : Cfg} {E : XK} {W : WX} {tg a b : PySem.Expr} {ma : ME} {mr : MA} {p pos : Pos}
theorem PI.imp {e : PySem.Expr} {t t' : TI} (h : PI X tg e t) (k : ∀ σ H Q, t' σ H Q → t σ H Q) : PI X tg e t' := ⟨fun pins s σ H Q I q => h.run pins s σ H Q I (k σ H Q q)⟩
theorem it_list {pins : List (Addr × Obj)} {s1 : Shared} {σ : L2.St} {H1 : Hp} {R : It → Hp → Prop} {x : V} {v : Value} (I1 : Inv X pins σ H1 s1) (r1 : RelV x v) (h : ∃ a, x = .ref a ∧ (∃ xs, SqL X.K H1 a xs) ∧ R (Itl X.K a) H1) :
    wpAny (model X.prog X.w) X.A (pyIter v) (PIE X pins σ tg R) X.xe s1 := by
  obtain ⟨a, e, ⟨xs, hq⟩, q⟩ := h
  subst e
  cases r1
  obtain ⟨its, rv, p, hz⟩ := I1.list hq
  refine wpAny_pyIter_list p.isList ?_
  refine ⟨s1.heap.objs.size, [s1.heap.objs.size], _, _, H1, rfl, I1.kept (t' := s1.toks) fun b o e => Heap.get?_push_of_some _ e, turn_list a _, ⟨_, Heap.get?_push_size _ rfl, rfl, rfl⟩, fun b hb => ?_, q⟩
  have e : b = s1.heap.objs.size := by simpa using hb
  subst e
  exact I1.fpOk (Nat.le_refl _) (I1.hok.fresh (Nat.le_refl _))
theorem it_tup {pins : List (Addr × Obj)} {s1 : Shared} {σ : L2.St} {H1 : Hp} {R : It → Hp → Prop} {x : V} {v : Value} (I1 : Inv X pins σ H1 s1) (r1 : RelV x v) (h : ∃ a, x = .ref a ∧ (∃ xs, SqT X.K H1 a xs) ∧ R (Itt X.K a) H1) :
    wpAny (model X.prog X.w) X.A (pyIter v) (PIE X pins σ tg R) X.xe s1 := by
  obtain ⟨a, e, ⟨xs, hq⟩, q⟩ := h
  subst e
  cases r1
  obtain ⟨its, rv, p, hz⟩ := I1.tuple hq
  refine wpAny_pyIter_tuple (show s1.heap.IsTuple a its.toArray from p) ?_
  refine ⟨s1.heap.objs.size, [s1.heap.objs.size], _, _, H1, rfl, I1.kept (t' := s1.toks) fun b o e => Heap.get?_push_of_some _ e, turn_tuple a _, ⟨_, Heap.get?_push_size _ rfl, rfl, rfl⟩, fun b hb => ?_, q⟩
  have e : b = s1.heap.objs.size := by simpa using hb
  subst e
  exact I1.fpOk (Nat.le_refl _) (I1.hok.fresh (Nat.le_refl _))
/-- a list in the store that is readable -/
def seqSrc' : D → S → R Src
  | .tup l, s => .ok (.tup l) s
  | .lst r, s => match s.seq r with
    | some _ => .ok (.lst r) s
    | none => .no
  | _, _ => .no
def iSeq' (a : ME) : MI := fun F e s => (a F e s).bind seqSrc'
theorem i_seq (A : At X g W) (ha : PE X a (te g W ma)) : PI X tg a (ti g W (iSeq' ma)) := by
  refine ⟨fun pins s σ H R I hw => ?_⟩
  obtain ⟨ι, e, st, R0, q, h⟩ := hw
  refine thn (ha.run pins s σ H (fun x H1 => (∃ a, x = .ref a ∧ (∃ xs, SqL X.K H1 a xs) ∧ R (Itl X.K a) H1) ∨ ∃ a, x = .ref a ∧ (∃ xs, SqT X.K H1 a xs) ∧ R (Itt X.K a) H1) I ⟨ι, e, st, R0, q, tR.bind h fun d s1 v H1 ι1 _ f1 R1 r1 h1 => ?_⟩) fun v s1 ⟨x, H1, I1, r1, q1⟩ => ?_
  · rw [A.K]
    cases r1 with
    | @tup a l xs k1 k2 => exact .inr ⟨a, rfl, ⟨xs, k1⟩, h1 _ _ _ Fw.refl R1 (src_tup k1 k2)⟩
    | @lst r a k1 =>
      change tR g (wat W σ) (SrcOk g) (match s1.seq r with | some _ => .ok (.lst r) s1 | none => .no) H1 ι1 R at h1
      cases hs : s1.seq r with
      | none => rw [hs] at h1; exact h1.elim
      | some l =>
        rw [hs] at h1
        obtain ⟨xs, k2, _⟩ := R1.seq k1 hs
        exact .inl ⟨a, rfl, ⟨xs, k2⟩, h1 _ _ _ Fw.refl R1 (src_lst k1)⟩
    | _ => exact h1.elim
  · rcases q1 with q1 | q1
    · exact it_list I1 r1 q1
    · exact it_tup I1 r1 q1
theorem i_rng1 (A : At X g W) (hg : Gl X "range") (hm : X.mg "range" = none) (ha : PA X [a] (ta g W mr)) (hs : starEach [a] X.env = [(false, eval a X.env)]) : PI X tg (.Call (.Name "range" p) [a] [] pos) (ti g W (iArgs rng1 mr)) :=
  PI.imp (pi_range1 hg hm ha hs) fun σ H Q ⟨ι, e, s, R, q, h⟩ => ⟨ι, e, s, R, q, tR.bind h fun ds s1 vs H1 ι1 he f1 R1 r1 h1 => by
    clear he
    unfold rng1 at h1
    split at h1
    · rename_i j
      obtain ⟨⟨k1, k2⟩, h2⟩ := tR.ite h1
      cases r1 with
      | cons r1 r2 =>
        cases r2
        cases r1
        exact ⟨j, rfl, k1, k2, h2 _ _ _ Fw.refl R1 src_rng⟩
    · exact h1.elim⟩
theorem i_rng2 (A : At X g W) (hg : Gl X "range") (hm : X.mg "range" = none) (ha : PA X [a, b] (ta g W mr)) (hs : starEach [a, b] X.env = [(false, eval a X.env), (false, eval b X.env)]) (hs2 : starEach [b] X.env = [(false, eval b X.env)]) : PI X tg (.Call (.Name "range" p) [a, b] [] pos) (ti g W (iArgs rng2 mr)) :=
  PI.imp (pi_range2 hg hm ha hs hs2) fun σ H Q ⟨ι, e, s, R, q, h⟩ => ⟨ι, e, s, R, q, tR.bind h fun ds s1 vs H1 ι1 he f1 R1 r1 h1 => by
    clear he
    unfold rng2 at h1
    split at h1
    · rename_i i j
      obtain ⟨k1, h2⟩ := tR.ite h1
      cases r1 with
      | cons r1 r2 =>
        cases r2 with
        | cons r2 r3 =>
          cases r3
          cases r1
          cases r2
          exact ⟨i, j, rfl, k1, h2 _ _ _ Fw.refl R1 src_rng⟩
    · exact h1.elim⟩
end
def forF (q : Src) (m : MG) (b : MS) : Nat → Nat → FT → En → S → R Fl
  | 0, _, _, _, _ => .no
  | n + 1, i, F, e, s => match q.at s i with
    | none => .no
    | some none => .ok (.nx e) s
    | some (some d) => (noEx (m F e d s)).st e fun e1 s1 => match b F e1 s1 with
        | .ok (.nx e2) s2 => forF q m b n (i + 1) F e2 s2
        | .ok (.ct e2) s2 => forF q m b n (i + 1) F e2 s2
        | .ok (.bk e2) s2 => .ok (.nx e2) s2
        | r => r
def sFor (it : MI) (m : MG) (b : MS) : MS := fun F e s => (it F e s).st e fun q s1 => forF q m b 100000 0 F e s1
section
variable {X : Cx} {g : Cfg} {E : XK} {W : WX} {pos : Pos}
theorem s_for (A : At X g W) {tg iter : PySem.Expr} {body : List PySem.Stmt} {mi : MI} {m : MG} {mb : MS} {ws : List Nat} (hi : PI X tg iter (ti g W mi)) (hg : PG X tg (gs g ws m)) (hb : PSs X body (ts g W mb)) (hs : ∀ x, foldedSetIterable iter X.env x = pure x) :
    PS X (.For tg iter body [] pos) (ts g W (sFor mi m mb)) :=
  PS.imp (ps_for A.po A.calm hi hg hb hs) fun D σ H ⟨ι, e, s, R, q, h⟩ => ⟨ι, e, s, R, q, by
    refine tRs.bind h q fun sr s1 J H1 ι1 _ f1 R1 r1 h1 => ?_
    refine ⟨fun i n σ H => ∃ ι e s, Fw g.K H1 ι1 H ι ∧ RS g.K g.T H ι s ∧ RE g.K H ι e σ ∧ tRs g W (forF sr m mb n i g.F e s) H ι D, ⟨100000, ι1, e, s1, Fw.refl, R1, q.fw f1, h1⟩, ?_⟩
    rintro i n σ H ⟨ι, e, s, f, R, q, h⟩
    cases n with
    | zero => exact h.elim
    | succ n =>
      obtain ⟨stp, go⟩ := r1 H ι s f R i
      unfold forF at h
      cases ha : sr.at s i with
      | none => simp only [ha] at h; exact h.elim
      | some o =>
        simp only [ha] at h
        cases o with
        | none => exact .inl ⟨stp ha, h σ H ι Fw.refl R q⟩
        | some d =>
          simp only at h
          obtain ⟨g1, g2⟩ := go d ha
          refine .inr ⟨g1, fun σ H => ∃ ι e s, Fw g.K H1 ι1 H ι ∧ RS g.K g.T H ι s ∧ RE g.K H ι e σ ∧ tRs g W (forF sr m mb n (i + 1) g.F e s) H ι D, fun σ' H' w => ⟨n, Nat.lt_succ_self n, w⟩, fun x H' y => ?_⟩
          obtain ⟨f2, R2, rx⟩ := g2 x H' y
          have h' := h.fw f2
          have ff := f.trans f2
          refine ⟨ι, e, s, d, R2, q.fw f2, rx, tRs.bindN h' fun e1 s1 σ2 H2 ι2 f3 R3 q3 h3 => ⟨ι2, e1, s1, R3, q3.1, ?_⟩⟩
          have fg := ff.trans f3
          cases hb : mb g.F e1 s1 with
          | ok fl s2 =>
            rw [hb] at h3
            cases fl with
            | nx e2 => exact fun σ' H' ι' f' R' q' => ⟨ι', e2, s2, fg.trans f', R', q', h3.fw f'⟩
            | ct e2 => exact fun σ' H' ι' f' R' q' => ⟨ι', e2, s2, fg.trans f', R', q', h3.fw f'⟩
            | bk e2 => exact h3
            | rt d2 => exact h3
            | xc x2 e2 => exact h3
          | ex x2 s2 => rw [hb] at h3; exact h3
          | no => rw [hb] at h3; exact h3⟩
end
end EV
namespace EV
open L2 PySem PySem.Spec PyProof.Rows
/-- nothing may be raised -/
abbrev WN : WX := fun _ _ _ _ => False
def wipeE (e : En) : List Nat → En
  | [] => e
  | v :: vs => (wipeE e vs).set v none
theorem RE.wipe {K : PySem.W.Frag} {H : Hp} {ι : List Addr} {e : En} {σ : L2.St} (h : RE K H ι e σ) : ∀ vs : List Nat, RE K H ι (wipeE e vs) (wipe σ vs)
  | [] => h
  | v :: vs => by
    have ih := RE.wipe h vs
    unfold wipeE L2.wipe
    refine ⟨by rw [List.length_set, List.length_set]; exact ih.1, fun i d q => ?_⟩
    rw [List.getElem?_set] at q
    by_cases hv : v = i
    · subst hv
      rw [if_pos rfl] at q
      split at q <;> cases q
    · rw [if_neg hv] at q
      obtain ⟨w, a, b⟩ := ih.2 i d q
      exact ⟨w, by rw [List.getElem?_set_ne hv]; exact a, b⟩
def lcF (q : Src) (m : MG) (t : MT) (el : ME) : Nat → Nat → List D → FT → En → S → R (List D)
  | 0, _, _, _, _, _ => .no
  | n + 1, i, acc, F, e, s => match q.at s i with
    | none => .no
    | some none => .ok acc.reverse s
    | some (some d) => (m F e d s).bind fun e1 s0 => (t F e1 s0).bind fun b s1 => if b then (el F e1 s1).bind fun x s2 => lcF q m t el n (i + 1) (x :: acc) F e s2 else lcF q m t el n (i + 1) acc F e s1
/-- the values of a comprehension -/
def cLc (it : MI) (m : MG) (t : MT) (el : ME) (vs : List Nat) : MA := fun F e s => (it F e s).bind fun q s1 => noEx (lcF q m t el 100000 0 [] F (wipeE e vs) s1)
def newL (xs : List D) (s : S) : R D := .ok (.lst s.n) (s.new (.lst xs))
def mLc (it : MI) (m : MG) (t : MT) (el : ME) (vs : List Nat) : ME := fun F e s => (cLc it m t el vs F e s).bind newL
section
variable {g : Cfg} {H H0 : Hp} {ι ι0 : List Addr} {s : S} {p : Addr}
/-- a list that is tracked becomes a cell -/
theorem RS.adopt {l : List D} {xs : List V} (R : RS g.K g.T H ι s) (f0 : Fw g.K H0 ι0 H ι) (h0 : H0 p = none) (hp : H p = some (.lst xs)) (hn : p ∉ ι) (r : RVs g.K H ι l xs) :
    Fw g.K H0 ι0 H (ι ++ [p]) ∧ RS g.K g.T H (ι ++ [p]) (s.new (.lst l)) ∧ RV g.K H (ι ++ [p]) (D.lst s.n) (V.ref p) := by
  have up : ∀ {d : D} {v : V}, RV g.K H ι d v → RV g.K H (ι ++ [p]) d v := fun h => by
    have f : ∀ (r : Nat) (a : Addr), ι[r]? = some a → (ι ++ [p])[r]? = some a := fun r a h => by
      rw [List.getElem?_append_left (List.getElem?_eq_some_iff.mp h).1]; exact h
    exact h.ups f
  have ups : ∀ {d : List D} {v : List V}, RVs g.K H ι d v → RVs g.K H (ι ++ [p]) d v := fun h => by
    have f : ∀ (r : Nat) (a : Addr), ι[r]? = some a → (ι ++ [p])[r]? = some a := fun r a h => by
      rw [List.getElem?_append_left (List.getElem?_eq_some_iff.mp h).1]; exact h
    exact RVs.ups f h
  refine ⟨⟨f0.tup, ?_, f0.dom, f0.oth, f0.frz⟩, ⟨fun t ht => ?_, by show s.n + 1 = _; rw [R.n]; rfl, by rw [List.length_append, R.len]; rfl, ?_, fun r' d a e h => ?_⟩, .lst (by rw [← R.len]; simp)⟩
  · obtain ⟨l, rfl, hl⟩ := f0.ad
    refine ⟨l ++ [p], by rw [List.append_assoc], fun a ha => ?_⟩
    rcases List.mem_append.mp ha with ha | ha
    · exact hl a ha
    · rw [List.mem_singleton.mp ha]; exact h0
  · have k := R.tab t ht
    cases t with
    | tab P => exact k
    | xd d fs =>
      obtain ⟨k1, k2⟩ := k
      exact ⟨k1, fun z => (List.mem_append.mp z).elim k2 fun z => by rw [List.mem_singleton.mp z, hp] at k1; cases k1⟩
    | lm P q => exact k
  · rw [List.nodup_append]
    exact ⟨R.nd, by simp, fun a ha b hb => by rw [List.mem_singleton.mp hb]; rintro rfl; exact hn ha⟩
  · rw [S.get_new R.n] at e
    by_cases hr : r' = s.n
    · rw [if_pos hr] at e
      cases e
      have : a = p := by
        rw [hr, ← R.len] at h
        simpa using h.symm
      subst this
      exact ⟨xs, hp, ups r⟩
    · rw [if_neg hr] at e
      have hl := S.get_lt e
      have h' : ι[r']? = some a := by
        rw [List.getElem?_append_left (by rw [R.len]; exact hl)] at h
        exact h
      have z := R.cell r' d a e h'
      cases d with
      | lst l => obtain ⟨xs, h1, h2⟩ := z; exact ⟨xs, h1, ups h2⟩
      | frz l => obtain ⟨o, xs, h1, h2⟩ := z; exact ⟨o, xs, h1, ups h2⟩
      | dct kvs => obtain ⟨l, h1, h2, h3⟩ := z; exact ⟨l, h1, h2.imp up, h3⟩
      | fdc kvs => obtain ⟨l, o, h1, h2, h3⟩ := z; exact ⟨l, o, h1, h2.imp up, h3⟩
      | dci kvs => obtain ⟨l, h1, h2, h3⟩ := z; exact ⟨l, h1, h2.imp up, h3⟩
      | fdi kvs => obtain ⟨l, o, h1, h2, h3⟩ := z; exact ⟨l, o, h1, h2.imp up, h3⟩
      | set kd l => cases kd <;> exact z
      | sn l => obtain ⟨M, L, h1, h2, h3, h4, h5⟩ := z; exact ⟨M, L, h1, fun p hp => ⟨(h2 p hp).1, up (h2 p hp).2⟩, h3, h4, h5⟩
      | crn k tr => exact z
      | urn tr => exact z
/-- a list that no cell speaks of, newer than H0, is written -/
theorem RS.aside {xs ys : List V} (R : RS g.K g.T H ι s) (f0 : Fw g.K H0 ι0 H ι) (h0 : H0 p = none) (hp : H p = some (.lst xs)) (hn : p ∉ ι) :
    Fw g.K H0 ι0 (upd H p (.lst ys)) ι ∧ RS g.K g.T (upd H p (.lst ys)) ι s ∧ (∀ {d : D} {v : V}, RV g.K H ι d v → RV g.K (upd H p (.lst ys)) ι d v) ∧ (∀ {d : List D} {v : List V}, RVs g.K H ι d v → RVs g.K (upd H p (.lst ys)) ι d v) ∧ ∀ {e : En} {σ : L2.St}, RE g.K H ι e σ → RE g.K (upd H p (.lst ys)) ι e σ := by
  have tp : ∀ a zs, SqT g.K H a zs → SqT g.K (upd H p (.lst ys)) a zs := fun a zs h => sqT_upd (fun o z => by rw [hp] at z; cases z; exact ⟨fun _ z => (nomatch z), fun _ _ z => (nomatch z)⟩) h
  have fz : ∀ a o u, H a = some (.frz o u) → upd H p (.lst ys) a = some (.frz o u) := fun a o u h => by rw [upd_ne (fun z => by rw [z, hp] at h; cases h)]; exact h
  have rv : ∀ {d : D} {v : V}, RV g.K H ι d v → RV g.K (upd H p (.lst ys)) ι d v := fun h => h.tps tp fz
  have rvs : ∀ {d : List D} {v : List V}, RVs g.K H ι d v → RVs g.K (upd H p (.lst ys)) ι d v := fun h => RVs.tps tp fz h
  refine ⟨⟨fun a zs h => tp a zs (f0.tup a zs h), f0.ad, fun a h => f0.dom a (upd_none h), fun a o h hi ht => ?_, fun a o u h => by rw [upd_ne (fun z => by rw [z, h0] at h; cases h)]; exact f0.frz a o u h⟩, ⟨fun t ht => Am.upd (fun P e z => by subst e; obtain ⟨ps, k, _⟩ := R.tab _ ht; rw [z, hp] at k; cases k) (fun d fs e => by subst e; obtain ⟨k1, k2⟩ := R.tab _ ht; exact ⟨(fun z => by rw [z, hp] at k1; cases k1), k2⟩) (fun P q e z => by subst e; obtain ⟨ps, k, _⟩ := R.tab _ ht; rw [z, hp] at k; cases k) (fun c q e z => by rw [z, hp] at e; cases e) (R.tab t ht), R.n, R.len, R.nd, fun r c a e h => ?_⟩, rv, rvs, fun h => ⟨h.1, fun i d q => let ⟨v, a, b⟩ := h.2 i d q; ⟨v, a, rv b⟩⟩⟩
  · rw [upd_ne (ne_of_none h h0)]
    exact f0.oth a o h hi ht
  · have hne : a ≠ p := fun z => hn (by subst z; exact List.mem_of_getElem? h)
    have z := R.cell r c a e h
    cases c with
    | lst l => obtain ⟨xs, h1, h2⟩ := z; exact ⟨xs, (upd_ne hne).trans h1, rvs h2⟩
    | frz l => obtain ⟨o, xs, h1, h2⟩ := z; exact ⟨o, xs, (upd_ne hne).trans h1, rvs h2⟩
    | dct kvs => obtain ⟨l, h1, h2, h3⟩ := z; exact ⟨l, (upd_ne hne).trans h1, h2.imp rv, h3⟩
    | fdc kvs => obtain ⟨l, o, h1, h2, h3⟩ := z; exact ⟨l, o, (upd_ne hne).trans h1, h2.imp rv, h3⟩
    | dci kvs => obtain ⟨l, h1, h2, h3⟩ := z; exact ⟨l, (upd_ne hne).trans h1, h2.imp rv, h3⟩
    | fdi kvs => obtain ⟨l, o, h1, h2, h3⟩ := z; exact ⟨l, o, (upd_ne hne).trans h1, h2.imp rv, h3⟩
    | set kd l =>
      cases kd with
      | false => obtain ⟨ks, h1, h2, h3, h4⟩ := z; exact ⟨ks, h1, h2, h3, (upd_ne hne).trans h4⟩
      | true => obtain ⟨ks, L, h1, h2, h3, h4, h5, h6⟩ := z; exact ⟨ks, L, h1, h2, h3, h4, fun p hp => tp _ _ (h5 p hp), (upd_ne hne).trans h6⟩
    | sn l => obtain ⟨M, L, h1, h2, h3, h4, h5⟩ := z; exact ⟨M, L, h1, fun p hp => ⟨(h2 p hp).1, rv (h2 p hp).2⟩, h3, h4, (upd_ne hne).trans h5⟩
    | crn k tr => obtain ⟨c, h1, h2⟩ := z; exact ⟨c, (upd_ne hne).trans h1, h2⟩
    | urn tr => obtain ⟨b, h1, h2⟩ := z; exact ⟨b, (upd_ne hne).trans h1, h2⟩
theorem RS.notin (R : RS g.K g.T H ι s) (hp : H p = none) : p ∉ ι := fun h => by
  obtain ⟨r, hr⟩ := List.mem_iff_getElem?.mp h
  exact R.off hp hr rfl
end
theorem wipe_wipe {σ : L2.St} {vs : List Nat} : wipe (wipe σ vs) vs = wipe σ vs := by
  refine List.ext_getElem? fun j => ?_
  by_cases hj : j ∈ vs
  · rw [wipe_in hj, wipe_in hj, wipe_length]
  · rw [wipe_out hj]
/-- what is wanted of the values that a comprehension's loop gives -/
def Fin (g : Cfg) (E : XK) (Q : VK) (H1 : Hp) (ι1 : List Addr) (r : R (List D)) : Prop := match r with
  | .ok l s => tRe g E (newL l s) H1 ι1 Q
  | _ => False
theorem Fin.of {g : Cfg} {E : XK} {Q : VK} {H1 : Hp} {ι1 : List Addr} {r : R (List D)} (h : tRe g E ((noEx r).bind newL) H1 ι1 Q) : Fin g E Q H1 ι1 r := by
  cases r with
  | ok l s => exact h
  | ex x s => exact h.elim
  | no => exact h.elim
theorem Fin.bind {α β : Type} {g : Cfg} {E : XK} {Q : VK} {H H1 : Hp} {ι ι1 : List Addr} {Rl : Hp → List Addr → α → β → Prop} {r : R α} {f : α → S → R (List D)} (h : Fin g E Q H1 ι1 (r.bind f)) {Q' : β → Hp → Prop}
    (k : ∀ d s v H' ι', Fw g.K H ι H' ι' → RS g.K g.T H' ι' s → Rl H' ι' d v → Fin g E Q H1 ι1 (f d s) → Q' v H') : tR g E0 Rl r H ι Q' := by
  cases r with
  | ok d s => exact fun v H2 ι2 f2 a b => k d s v H2 ι2 f2 a b h
  | ex x s => exact h.elim
  | no => exact h.elim
/-- the state of a comprehension's loop -/
def LcW (g : Cfg) (E : XK) (Q : VK) (H1 : Hp) (ι1 : List Addr) (D : Addr) (sr : Src) (m : MG) (t : MT) (el : ME) (e0 : En) (σ0 : L2.St) (i n : Nat) (H : Hp) : Prop :=
  ∃ ι s acc xs, Fw g.K H1 ι1 H ι ∧ RS g.K g.T H ι s ∧ RE g.K H ι e0 σ0 ∧ D ∉ ι ∧ H D = some (.lst xs) ∧ RVs g.K H ι acc.reverse xs ∧ acc.length ≤ i ∧ i + n = 100000 ∧ Fin g E Q H1 ι1 (lcF sr m t el n i acc g.F e0 s)
theorem lc_sound {g : Cfg} {W : WX} {vs : List Nat} {wi : MI} {m : MG} {t : MT} {el : ME} : ∀ {σ : L2.St} {H : Hp} {Q : VK}, te g W (mLc wi m t el vs) σ H Q → tLc (ti g W wi) (gs g vs m) (tt g WN t) (te g WN el) vs σ H Q := by
  rintro σ H Q ⟨ι, e, s, R, q, h⟩
  have h' : tRe g (wat W σ) ((wi g.F e s).bind fun q s1 => (noEx (lcF q m t el 100000 0 [] g.F (wipeE e vs) s1)).bind newL) H ι Q := by
    have := h
    unfold mLc cLc at this
    simp only [EV.R.bind_bind] at this
    exact this
  refine ⟨ι, e, s, R, q, tR.bind h' fun sr s1 J H1 ι1 _ f1 R1 r1 h1 => fun D hD => ?_⟩
  have hF := Fin.of h1
  refine ⟨fun i n H => LcW g (wat W σ) Q H1 ι1 D sr m t el (wipeE e vs) (wipe σ vs) i n H, ⟨100000, ι1, s1, [], [], Fw.new hD, R1.new hD, ((q.fw f1).wipe vs).fw (Fw.new hD), R1.notin hD, upd_same, .nil, Nat.le_refl _, rfl, hF⟩, ?_⟩
  rintro i n H2 ⟨ι2, s2, acc, xs, f2, R2, q2, n2, h2, r2, a2, b2, c2⟩
  cases n with
  | zero => exact c2.elim
  | succ n =>
    have fsrc : SrcOk g H1 ι1 sr J := r1
    obtain ⟨stp, go⟩ := fsrc H2 ι2 s2 f2 R2 i
    unfold lcF at c2
    cases ha : sr.at s2 i with
    | none => simp only [ha] at c2; exact c2.elim
    | some o =>
      simp only [ha] at c2
      cases o with
      | none =>
        refine .inl ⟨stp ha, ?_⟩
        obtain ⟨k1, k2, k3⟩ := R2.adopt f2 hD h2 n2 r2
        exact c2 _ _ _ k1 k2 k3
      | some d =>
        simp only at c2
        obtain ⟨g1, g2⟩ := go d ha
        refine .inr ⟨g1, fun H' => ∃ n', n' < n + 1 ∧ LcW g (wat W σ) Q H1 ι1 D sr m t el (wipeE e vs) (wipe σ vs) (i + 1) n' H', fun H' w => w, fun x H3 y => ?_⟩
        obtain ⟨f3, R3, rx⟩ := g2 x H3 y
        have h3 := f3.oth D _ h2 n2 fun ps z => by cases z
        refine ⟨ι2, wipeE e vs, s2, d, R3, q2.fw f3, rx, Fin.bind c2 fun e1 s3 σ2 H3' ι3' f3' R3' q3' c3 => ⟨q3'.2.trans wipe_wipe, ι3', e1, s3, R3', q3'.1, Fin.bind c3 fun b s4 b' H4 ι4 f4' R4 eb c4 => ?_⟩⟩
        have q3 := q3'.1
        subst eb
        have h3b := f3'.oth D _ h3 n2 fun ps z => by cases z
        have n3b := f3'.out h3 n2
        have h4 := f4'.oth D _ h3b n3b fun ps z => by cases z
        have n4 := f4'.out h3b n3b
        have ff := (f3.trans f3').trans f4'
        cases b with
        | false => exact ⟨n, Nat.lt_succ_self n, ι4, s4, acc, xs, f2.trans ff, R4, q2.fw ff, n4, h4, r2.fw ff, Nat.le_succ_of_le a2, by omega, c4⟩
        | true =>
          rw [if_pos rfl] at c4 ⊢
          refine ⟨ι4, e1, s4, R4, q3.fw f4', Fin.bind c4 fun y s5 v5 H5 ι5 f5 R5 r5 c5 => ?_⟩
          have h5 := f5.oth D _ h4 n4 fun ps z => by cases z
          have n5 := f5.out h4 n4
          have fg := ff.trans f5
          have hlen : xs.length = acc.length := by rw [← r2.length, List.length_reverse]
          obtain ⟨k1, k2, k3, k4, k5⟩ := R5.aside (ys := xs ++ [v5]) (f2.trans fg) hD h5 n5
          refine ⟨xs, h5, Nat.lt_of_lt_of_le (by omega : xs.length < 100000) (by decide), n, Nat.lt_succ_self n, ι5, s5, y :: acc, xs ++ [v5], k1, k2, k5 (q2.fw fg), n5, upd_same, ?_, by rw [List.length_cons]; omega, by omega, c5⟩
          rw [List.reverse_cons]
          exact k4 ((r2.fw fg).append (.cons r5 .nil))
section
variable {X : Cx} {g : Cfg} {W : WX} {pos : Pos}
/-- the blocks of comprehensions -/
def Blk (X : Cx) (scope : Scope) (P : Cx → Prop) : Prop := ∀ (s : Shared) (H : Hp) (C : Addr) (cl : List (Str × Addr)) (fp : List Addr), P (X.blk s H scope (compEnvC scope cl C X.env) fp)
theorem e_lc (A : At X g W) {elt tg iter : PySem.Expr} {ifs : List PySem.Expr} {scope : Scope} {own : List (Str × Nat)} {wi : MI} {m : MG} {t : MT} {el : ME} (hN : X.N.Nodup) (hi : PI X tg iter (ti g W wi)) (ok : BlkOk X.N X.env.scope scope own)
    (hg : Blk X scope fun Y => PG Y tg (gs g (own.map (·.2)) m)) (ht : Blk X scope fun Y => PTs Y ifs (tt g WN t)) (he : Blk X scope fun Y => PE Y elt (te g WN el)) (hs : ∀ x, foldedSetIterable iter X.env x = pure x) :
    PE X (.ListComp elt [⟨tg, iter, ifs, 0⟩] scope pos) (te g W (mLc wi m t el (own.map (·.2)))) := PE.imp (pe_lc A.calm hN hi ok hg ht he hs) fun _ _ _ h => lc_sound h
theorem s_setLc (A : At X g W) {i : Nat} {y : Str} {py : Pos} {elt tg iter : PySem.Expr} {ifs : List PySem.Expr} {scope : Scope} {own : List (Str × Nat)} {spos : Pos} {wi : MI} {m : MG} {t : MT} {el : ME} (hN : X.N.Nodup) (hy : X.N[i]? = some y) (hyl : X.env.scope.names.lookup y = some .local)
    (hsw : swapsWith (.ListComp elt [⟨tg, iter, ifs, 0⟩] scope pos) (some (.Name y py)) spos.line X.env = pure true) (hi : PI X tg iter (ti g W wi)) (ok : BlkOk X.N X.env.scope scope own)
    (hg : Blk X scope fun Y => PG Y tg (gs g (own.map (·.2)) m)) (ht : Blk X scope fun Y => PTs Y ifs (tt g WN t)) (he : Blk X scope fun Y => PE Y elt (te g WN el)) (hs : ∀ x, foldedSetIterable iter X.env x = pure x) :
    PS X (.Assign [.Name y py] (.ListComp elt [⟨tg, iter, ifs, 0⟩] scope pos) spos) (ts g W (sAsg (mLc wi m t el (own.map (·.2))) (gNm i))) :=
  PS.imp (ps_setLc A.calm hN hy hyl hsw hi ok hg ht he hs) fun D σ H ⟨ι, e, s, R, q, h⟩ => lc_sound ⟨ι, e, s, R, q, tRs.bind h q fun d s1 v H1 ι1 _ f1 R1 r1 h1 => h1 _ H1 ι1 Fw.refl R1 ((q.fw f1).set r1 i)⟩
theorem PTs.imp {X : Cx} {e : List PySem.Expr} {t t' : TT} (h : PTs X e t) (k : ∀ σ H Q, t' σ H Q → t σ H Q) : PTs X e t' := ⟨fun pins s σ H Q I q => h.run pins s σ H Q I (k σ H Q q)⟩
def tYesM : MT := fun _ _ s => .ok true s
theorem ts_nil : PTs X [] (tt g W tYesM) := PTs.imp pts_nil fun σ H Q ⟨ι, e, s, R, q, h⟩ => tR.of h R rfl
theorem ts_one {c : PySem.Expr} {t : MT} (h : PT X c (tt g W t)) : PTs X [c] (tt g W t) := pts_one h
end
end EV
namespace EV
open L2 PySem PySem.Spec PyProof.Rows
section
variable {X : Cx} {g : Cfg} {E : XK} {W : WX} {a b : PySem.Expr} {ma mb : ME} {mr : MA} {pos : Pos}
def itO (l : Option (List D)) (i : Int) (s : S) : R D := match l with
  | some l => match atI l i with
    | some d => .ok d s
    | none => .no
  | none => .no
def dIx : D → D → S → R D
  | .tup l, .int i, s => itO (some l) i s
  | .lst r, .int i, s => itO (s.seq r) i s
  | _, _, _ => .no
theorem RVs.atI {K : PySem.W.Frag} {H : Hp} {ι : List Addr} {ds : List D} {vs : List V} (h : RVs K H ι ds vs) {i : Int} {d : D} (e : L2.atI ds i = some d) : ∃ v, L2.atI vs i = some v ∧ RV K H ι d v := by
  unfold L2.atI at e ⊢
  rw [← h.length]
  cases hx : ixN ds.length i with
  | none => rw [hx] at e; cases e
  | some j =>
    rw [hx] at e
    exact h.get e
theorem ix_all (A : At X g W) : IxR X (ro g dIx) := by
  intro value slice pins s σ H x y v u Q I rx ry ⟨E, ι, dx, dy, st, R, qx, qy, q⟩ hs
  cases qy with
  | int i =>
    cases qx with
    | @tup a l xs k1 k2 =>
      change tRe g E (itO (some l) i st) H ι Q at q
      unfold itO at q
      simp only at q
      cases hd : L2.atI l i with
      | none => rw [hd] at q; exact q.elim
      | some d =>
        rw [hd] at q
        obtain ⟨w, hw, rw'⟩ := RVs.atI k2 hd
        exact ix_tup value slice pins s σ H _ _ v u Q I rx ry ⟨a, xs, i, w, rfl, rfl, by rw [A.K]; exact k1, hw, tR.of q R rw'⟩ hs
    | @lst r a k1 =>
      change tRe g E (itO (st.seq r) i st) H ι Q at q
      unfold itO at q
      cases hl : st.seq r with
      | none => rw [hl] at q; exact q.elim
      | some l =>
        rw [hl] at q
        simp only at q
        cases hd : L2.atI l i with
        | none => rw [hd] at q; exact q.elim
        | some d =>
          rw [hd] at q
          obtain ⟨xs, hx, k2⟩ := R.seq k1 hl
          obtain ⟨w, hw, rw'⟩ := RVs.atI k2 hd
          exact ix_list value slice pins s σ H _ _ v u Q I rx ry ⟨a, xs, i, w, rfl, rfl, by rw [A.K]; exact hx, hw, tR.of q R rw'⟩ hs
    | _ => exact q.elim
  | _ => cases qx <;> exact q.elim
/-- a part of a slice -/
abbrev MO := FT → En → S → R (Option Int)
def oNone : MO := fun _ _ s => .ok none s
def asI : D → S → R (Option Int)
  | .int i, s => .ok (some i) s
  | _, _ => .no
def oSome (a : ME) : MO := fun F e s => (a F e s).bind asI
def to (g : Cfg) (W : WX) (m : MO) : TO := fun σ H Q => ∃ ι e s, RS g.K g.T H ι s ∧ RE g.K H ι e σ ∧ tR g (wat W σ) (fun _ _ a b => a = b) (m g.F e s) H ι Q
theorem PO.imp {e : Option PySem.Expr} {t t' : TO} (h : PO X e t) (k : ∀ σ H Q, t' σ H Q → t σ H Q) : PO X e t' := ⟨fun pins s σ H Q I q => h.run pins s σ H Q I (k σ H Q q)⟩
theorem o_none : PO X none (to g W oNone) := PO.imp po_none fun σ H Q ⟨ι, e, s, R, q, h⟩ => tR.of h R rfl
theorem o_some (ha : PE X a (te g W ma)) : PO X (some a) (to g W (oSome ma)) :=
  PO.imp (po_some ha) fun σ H Q ⟨ι, e, s, R, q, h⟩ => ⟨ι, e, s, R, q, tR.bind h fun d s1 v H1 ι1 _ f1 R1 r1 h1 => by
    cases r1 with
    | int i => exact ⟨i, rfl, tR.of h1 R1 rfl⟩
    | _ => exact h1.elim⟩
def cutD (l : List D) (lo hi : Option Int) : List D := (l.drop (HT.sIx l.length 0 lo)).take (HT.sIx l.length l.length hi - HT.sIx l.length 0 lo)
theorem RVs.cut {K : PySem.W.Frag} {H : Hp} {ι : List Addr} {ds : List D} {vs : List V} (h : RVs K H ι ds vs) (lo hi : Option Int) : RVs K H ι (cutD ds lo hi) (cutV vs lo hi) := by
  unfold cutD cutV
  rw [← h.length]
  exact (h.drop _).take _
def slO (l : Option (List D)) (lo hi : Option Int) (s : S) : R D := match l with
  | some l => newL (cutD l lo hi) s
  | none => .no
theorem rvs_kls {K : PySem.W.Frag} {H : Hp} {ι : List Addr} : ∀ l : List Int, RVs K H ι (l.map .int) (l.map V.int)
  | [] => .nil
  | i :: l => .cons (.int i) (rvs_kls l)
def dSl (lo hi : Option Int) : D → S → R D
  | .tup l, s => .ok (.tup (cutD l lo hi)) s
  | .lst r, s => slO (s.seq r) lo hi s
  | .kls l, s => newL (cutD (l.map .int) lo hi) s
  | _, _ => .no
def rsl (g : Cfg) : V → Option Int → Option Int → Hp → VK → Prop := fun x lo hi H Q => ∃ E ι dx s, RS g.K g.T H ι s ∧ RV g.K H ι dx x ∧ tRe g E (dSl lo hi dx s) H ι Q
theorem newL_ok {ds : List D} {vs : List V} {s : S} {H : Hp} {ι : List Addr} {Q : VK} (R : RS g.K g.T H ι s) (r : RVs g.K H ι ds vs) (h : tRe g E (newL ds s) H ι Q) : ∀ p, H p = none → Q (.ref p) (upd H p (.lst vs)) := fun p hp =>
  h _ _ _ (Fw.newA hp) (R.alloc hp ⟨vs, upd_same, r.fw (Fw.newA hp)⟩) (.lst (by rw [← R.len]; simp))
theorem sl_all (A : At X g W) : SlR X (rsl g) := by
  intro pins s σ H x v vl vu lo hi sl Q I rx hs pl pu ⟨E, ι, dx, st, R, qx, q⟩
  cases qx with
  | @tup a l xs k1 k2 =>
    have q' : tRe g E (.ok (.tup (cutD l lo hi)) st) H ι Q := q
    refine sl_tupA pins s σ H _ v vl vu lo hi sl Q I rx hs pl pu ⟨a, xs, rfl, by rw [A.K]; exact k1, fun w => ?_, fun w p hp => ?_⟩
    · have hc : cutV xs lo hi = xs := by
        unfold cutV
        rw [w.1, w.2]
        simp
      have r := k2.cut lo hi
      rw [hc] at r
      exact tR.of q' R (.tup k1 r)
    · exact q' _ _ _ (Fw.new hp) (R.new hp) (.tup (.inl (.inl upd_same)) ((k2.cut lo hi).fw (Fw.new hp)))
  | @lst r a k1 =>
    change tRe g E (slO (st.seq r) lo hi st) H ι Q at q
    cases hl : st.seq r with
    | none => rw [hl] at q; exact q.elim
    | some l =>
      rw [hl] at q
      obtain ⟨xs, hx, k2⟩ := R.seq k1 hl
      exact sl_list pins s σ H _ v vl vu lo hi sl Q I rx hs pl pu ⟨a, xs, rfl, by rw [A.K]; exact hx, newL_ok R (k2.cut lo hi) q⟩
  | @kls l a k1 => exact sl_list pins s σ H _ v vl vu lo hi sl Q I rx hs pl pu ⟨a, _, rfl, by rw [A.K]; exact k1.sq, newL_ok R ((rvs_kls l).cut lo hi) (show tRe g E (newL (cutD (l.map .int) lo hi) st) H ι Q from q)⟩
  | _ => exact q.elim
def mSl (a : ME) (lo hi : MO) : ME := fun F e s => (a F e s).bind fun x s1 => (lo F e s1).bind fun l s2 => (hi F e s2).bind fun h s3 => dSl l h x s3
theorem e_sl (A : At X g W) {lo hi : Option PySem.Expr} {ml mh : MO} {p2 : Pos} (ha : PE X a (te g W ma)) (hl : PO X lo (to g W ml)) (hh : PO X hi (to g W mh)) : PE X (.Subscript a (.Slice lo hi none p2) pos) (te g W (mSl ma ml mh)) :=
  PE.imp (pe_slice (sl_all A) ha hl hh) fun σ H Q ⟨ι, e, s, R, q, h⟩ => ⟨ι, e, s, R, q, tR.bind h fun d s1 v H1 ι1 _ f1 R1 r1 h1 => ⟨ι1, e, s1, R1, q.fw f1, tR.bind h1 fun d2 s2 v2 H2 ι2 _ f2 R2 r2 h2 => ⟨ι2, e, s2, R2, (q.fw f1).fw f2, by
    subst r2
    exact tR.bind h2 fun d3 s3 v3 H3 ι3 _ f3 R3 r3 h3 => by
      subst r3
      exact ⟨_, ι3, d, s3, R3, (r1.fw f2).fw f3, h3⟩⟩⟩⟩
theorem e_callB {id : String} {f : List D → S → R D} {x : Str} {p : Pos} {es : List PySem.Expr} (hc : CallR X (.builtin id) (rc g f)) (hg : Gl X x) (hm : X.mg x = none) (hv : bootBuiltins x = some (.builtin id)) (ha : PA X (a :: es) (ta g W mr)) (hn : x ≠ "__name__") (hdb : (x == ("__debug__" : Str)) = false)
    (he : starEach (a :: es) X.env = (false, eval a X.env) :: starEach es X.env) (hpl : (backTo pos (starEach es X.env)).any (·.1) = false) : PE X (.Call (.Name x p) (a :: es) [] pos) (te g W (mCall f mr)) :=
  PE.imp (pe_callB hc hg hm hv ha hn hdb he hpl) fun σ H Q ⟨ι, e, s, R, q, h⟩ => ⟨ι, e, s, R, q, tR.bind h fun ds s1 vs H1 ι1 _ f1 R1 r1 h1 => ⟨_, ι1, ds, s1, R1, r1, h1⟩⟩
theorem e_callTy {T : String} {f : List D → S → R D} {x : Str} {p : Pos} {es : List PySem.Expr} (hc : CallR X (.type T) (rc g f)) (hg : Gl X x) (hm : X.mg x = none) (hv : bootBuiltins x = some (.type T)) (ha : PA X (a :: es) (ta g W mr)) (hn : x ≠ "__name__") (hdb : (x == ("__debug__" : Str)) = false)
    (he : starEach (a :: es) X.env = (false, eval a X.env) :: starEach es X.env) (hpl : (backTo pos (starEach es X.env)).any (·.1) = false) : PE X (.Call (.Name x p) (a :: es) [] pos) (te g W (mCall f mr)) :=
  PE.imp (pe_callTy hc hg hm hv ha hn hdb he hpl) fun σ H Q ⟨ι, e, s, R, q, h⟩ => ⟨ι, e, s, R, q, tR.bind h fun ds s1 vs H1 ι1 _ f1 R1 r1 h1 => ⟨_, ι1, ds, s1, R1, r1, h1⟩⟩
def bAbs : List D → S → R D
  | [.int i], s => .ok (.int (if i < 0 then -i else i)) s
  | _, _ => .no
theorem c_abs : CallR X (.builtin "abs") (rc g bAbs) := by
  intro pins s σ H xs us Q I r ⟨E, ι, ds, st, R, rv, q⟩
  unfold bAbs at q
  split at q
  · rename_i i
    cases rv with
    | cons r1 r2 =>
      cases r2
      cases r1
      exact call_abs pins s σ H _ us Q I r ⟨i, rfl, tR.of q R (.int _)⟩
  · exact q.elim
def lenO (l : Option (List D)) (s : S) : R D := match l with
  | some l => .ok (.int l.length) s
  | none => .no
def bLen : List D → S → R D
  | [.tup l], s => .ok (.int l.length) s
  | [.lst r], s => lenO (s.seq r) s
  | _, _ => .no
theorem c_len (A : At X g W) : CallR X (.builtin "len") (rc g bLen) := by
  intro pins s σ H xs us Q I r ⟨E, ι, ds, st, R, rv, q⟩
  unfold bLen at q
  split at q
  · rename_i l
    cases rv with
    | cons r1 r2 =>
      cases r2
      cases r1 with
      | tup k1 k2 => exact call_len_seq pins s σ H _ us Q I r ⟨_, _, rfl, .inr (by rw [A.K]; exact k1), by rw [← k2.length]; exact tR.of q R (.int _)⟩
  · rename_i r'
    cases rv with
    | cons r1 r2 =>
      cases r2
      cases r1 with
      | lst k1 =>
        unfold lenO at q
        cases hl : st.seq r' with
        | none => rw [hl] at q; exact q.elim
        | some l =>
          rw [hl] at q
          obtain ⟨ys, hx, k2⟩ := R.seq k1 hl
          exact call_len_seq pins s σ H _ us Q I r ⟨_, ys, rfl, .inl (by rw [A.K]; exact hx), by rw [← k2.length]; exact tR.of q R (.int _)⟩
  · exact q.elim
def listO (l : Option (List D)) (s : S) : R D := match l with
  | some l => newL l s
  | none => .no
def bList : List D → S → R D
  | [.tup l], s => newL l s
  | [.lst r], s => listO (s.seq r) s
  | _, _ => .no
theorem c_list (A : At X g W) : CallR X (.type "list") (rc g bList) := by
  intro pins s σ H xs us Q I r ⟨E, ι, ds, st, R, rv, q⟩
  unfold bList at q
  split at q
  · rename_i l
    cases rv with
    | cons r1 r2 =>
      cases r2
      cases r1 with
      | tup k1 k2 => exact call_list_of pins s σ H _ us Q I r ⟨_, _, rfl, .inr (by rw [A.K]; exact k1), newL_ok R k2 q⟩
  · rename_i r'
    cases rv with
    | cons r1 r2 =>
      cases r2
      cases r1 with
      | lst k1 =>
        unfold listO at q
        cases hl : st.seq r' with
        | none => rw [hl] at q; exact q.elim
        | some l =>
          rw [hl] at q
          obtain ⟨ys, hx, k2⟩ := R.seq k1 hl
          exact call_list_of pins s σ H _ us Q I r ⟨_, ys, rfl, .inl (by rw [A.K]; exact hx), newL_ok R k2 q⟩
  · exact q.elim
def tupO (l : Option (List D)) (s : S) : R D := match l with
  | some l => .ok (.tup l) s
  | none => .no
def bTuple : List D → S → R D
  | [.tup l], s => .ok (.tup l) s
  | [.lst r], s => tupO (s.seq r) s
  | _, _ => .no
theorem c_tuple (A : At X g W) : CallR X (.type "tuple") (rc g bTuple) := by
  intro pins s σ H xs us Q I r ⟨E, ι, ds, st, R, rv, q⟩
  unfold bTuple at q
  split at q
  · rename_i l
    cases rv with
    | cons r1 r2 =>
      cases r2
      cases r1 with
      | tup k1 k2 => exact call_tuple_of pins s σ H _ us Q I r ⟨_, _, rfl, .inr ⟨by rw [A.K]; exact k1, tR.of q R (.tup k1 k2)⟩⟩
  · rename_i r'
    cases rv with
    | cons r1 r2 =>
      cases r2
      cases r1 with
      | lst k1 =>
        unfold tupO at q
        cases hl : st.seq r' with
        | none => rw [hl] at q; exact q.elim
        | some l =>
          rw [hl] at q
          obtain ⟨ys, hx, k2⟩ := R.seq k1 hl
          exact call_tuple_of pins s σ H _ us Q I r ⟨_, ys, rfl, .inl ⟨by rw [A.K]; exact hx, fun p hp => q _ _ _ (Fw.new hp) (R.new hp) (.tup (.inl (.inl upd_same)) (k2.fw (Fw.new hp)))⟩⟩
  · exact q.elim
def bInt : List D → S → R D
  | [.int i], s => .ok (.int i) s
  | [.bl k], s => .ok (.int (if k then 1 else 0)) s
  | _, _ => .no
theorem c_int : CallR X (.type "int") (rc g bInt) := by
  intro pins s σ H xs us Q I r ⟨E, ι, ds, st, R, rv, q⟩
  unfold bInt at q
  split at q
  · rename_i i
    cases rv with
    | cons r1 r2 =>
      cases r2
      cases r1
      exact call_int1 pins s σ H _ us Q I r (.inl ⟨i, rfl, tR.of q R (.int _)⟩)
  · rename_i k
    cases rv with
    | cons r1 r2 =>
      cases r2
      cases r1
      exact call_int1 pins s σ H _ us Q I r (.inr ⟨k, rfl, tR.of q R (.int _)⟩)
  · exact q.elim
end
end EV
namespace EV
open L2 PySem PySem.Spec PyProof.Rows
structure Row where
  x : Str
  st : PySem.Stmt
  ps : List Str
  N : List Str
  m : MS
  /-- some true: it holds a generator expression; none: a lambda -/
  gx : Option Bool
inductive GV where
  | fn (i : Nat) | bi | mf (id : String) | cst (d : D) | exc
def finF (r : R Fl) : R D := match r with
  | .ok (.nx _) s => .ok .non s
  | .ok (.rt d) s => .ok d s
  | .ok (.xc x _) s => .ex x s
  | .ok _ _ => .no
  | .ex _ _ => .no
  | .no => .no
def startE (k : Nat) (ds : List D) : En := ds.map some ++ List.replicate (k - ds.length) none
def runRow (r : Option Row) (F : FT) (ds : List D) (s : S) : R D := match r with
  | some r => if ds.length = r.ps.length then finF (r.m F (startE r.N.length ds) s) else .no
  | none => .no
def run (B : List Row) : Nat → FT
  | 0 => fun _ _ _ => .no
  | n + 1 => fun i ds s => runRow B[i]? (run B n) ds s
def spEv (g : Cfg) (i : Nat) : Sp := fun vs H Q E => ∃ ι ds s, RS g.K g.T H ι s ∧ RVs g.K H ι ds vs ∧ tRe g E (g.F i ds s) H ι Q
/-- what the program's top says of a name -/
def GvOk (X : Cx) (B : List Row) (g : Cfg) (n : Nat) (x : Str) : GV → Prop
  | .fn i => ∀ r, B[i]? = some r → r.x = x ∧ ∃ f fd, X.mg x = some (.ref f) ∧ Fun X.K x x r.st f fd ∧ FnOk X.prog X.w X.K X.mg X.base (L2.CX X.prog X.w) n f fd r.ps (spEv g i)
  | .bi => X.mg x = none
  | .mf id => X.mg x = some (.builtin id)
  | .cst d => ∃ v u, X.mg x = some u ∧ RelV v u ∧ ∀ H ι, RV X.K H ι d v
  | .exc => True
abbrev Ns := List (Str × NameKind)
/-- where a text is read -/
structure Ct (X : Cx) (B : List Row) (Z : List (Str × GV)) (g : Cfg) (W : WX) (n : Nat) (N : List Str) (ns : Ns) : Prop where
  at_ : At X g W
  eN : X.N = N
  nd : N.Nodup
  room : Room n X.A
  l : ∀ x, ns.lookup x = some .local → X.env.scope.names.lookup x = some .local
  c : ∀ x, ns.lookup x = some .cell → X.env.scope.names.lookup x = some .cell
  f : ∀ x, ns.lookup x = some .free → X.env.scope.names.lookup x = some .free ∨ X.env.scope.names.lookup x = some .cell
  gl : ∀ x, ns.lookup x = some .globalImplicit → X.env.scope.names.lookup x = some .globalImplicit
  fnc : ∀ x, ns.lookup x = some .cell → X.fn x = true
  kind : X.env.scope.kind = .function
  nm : ∀ x v, Z.lookup x = some v → GvOk X B g n x v
def visB (ns : Ns) (x : Str) : Bool := match ns.lookup x with
  | some .local => true
  | some .cell => true
  | some .free => true
  | _ => false
def locB (ns : Ns) (x : Str) : Bool := match ns.lookup x with
  | some .local => true
  | some .cell => true
  | _ => false
def lclB (ns : Ns) (x : Str) : Bool := match ns.lookup x with
  | some .local => true
  | _ => false
def glB (ns : Ns) (x : Str) : Bool := match ns.lookup x with
  | some .globalImplicit => true
  | _ => false
def nthB (N : List Str) (i : Nat) (x : Str) : Bool := match N[i]? with
  | some y => y == x
  | none => false
section
variable {X : Cx} {B : List Row} {Z : List (Str × GV)} {g : Cfg} {W : WX} {n : Nat} {N : List Str} {ns : Ns} {x : Str}
theorem Ct.vis (C : Ct X B Z g W n N ns) (h : visB ns x = true) : Vis X.env.scope x := by
  unfold visB at h
  split at h
  · exact .inl (C.l _ (by assumption))
  · exact .inr (.inl (C.c _ (by assumption)))
  · rcases C.f _ (by assumption) with z | z
    · exact .inr (.inr z)
    · exact .inr (.inl z)
  · cases h
theorem Ct.loc (C : Ct X B Z g W n N ns) (h : locB ns x = true) : Loc X.env.scope x := by
  unfold locB at h
  split at h
  · exact .inl (C.l _ (by assumption))
  · exact .inr (C.c _ (by assumption))
  · cases h
theorem Ct.locf (C : Ct X B Z g W n N ns) (h : locB ns x = true) : X.fn x = true ∨ X.env.scope.names.lookup x = some .local := by
  unfold locB at h
  split at h
  · exact .inr (C.l _ (by assumption))
  · exact .inl (C.fnc _ (by assumption))
  · cases h
theorem Ct.lcl (C : Ct X B Z g W n N ns) (h : lclB ns x = true) : X.env.scope.names.lookup x = some .local := by
  unfold lclB at h
  split at h
  · exact C.l _ (by assumption)
  · cases h
theorem Ct.glob (C : Ct X B Z g W n N ns) (h : glB ns x = true) : Gl X x := by
  unfold glB at h
  split at h
  · exact C.gl _ (by assumption)
  · cases h
theorem Ct.nth (C : Ct X B Z g W n N ns) {i : Nat} (h : nthB N i x = true) : X.N[i]? = some x := by
  rw [C.eN]
  unfold nthB at h
  split at h
  · rename_i y hy
    rw [hy, beq_iff_eq.mp h]
  · cases h
theorem look_relabel_free {env : Env} : ∀ {names : List (Str × NameKind)} {x : Str}, names.lookup x = some .free → (names.map fun (n, k) => if (k == NameKind.free && env.scope.kind == .function && env.kindOf n == some .cell) then (n, NameKind.cell) else (n, k)).lookup x = some .free ∨
    (names.map fun (n, k) => if (k == NameKind.free && env.scope.kind == .function && env.kindOf n == some .cell) then (n, NameKind.cell) else (n, k)).lookup x = some .cell
  | [], _, h => by simp at h
  | (n, k) :: r, x, h => by
    have ih := @look_relabel_free env r x
    rw [List.map_cons]
    by_cases hc : (k == NameKind.free && env.scope.kind == .function && env.kindOf n == some .cell) = true
    · simp only [hc, if_true]
      rw [List.lookup_cons] at h ⊢
      cases hx : x == n with
      | true => exact .inr rfl
      | false => simp only [hx] at h; exact ih h
    · simp only [hc]
      rw [List.lookup_cons] at h
      cases hx : x == n with
      | true => simp only [hx] at h; cases h; left; simp [List.lookup_cons, hx]
      | false =>
        simp only [hx] at h
        simp only [List.lookup_cons, hx, Bool.false_eq_true, if_false]
        exact ih h
theorem look_relabel_keep {env : Env} : ∀ {names : List (Str × NameKind)} {x : Str} {k : NameKind}, k ≠ .free → names.lookup x = some k → (names.map fun (n, k) => if (k == NameKind.free && env.scope.kind == .function && env.kindOf n == some .cell) then (n, NameKind.cell) else (n, k)).lookup x = some k
  | [], _, _, _, h => by simp at h
  | (n, k0) :: r, x, k, hk, h => by
    have ih := @look_relabel_keep env r x k hk
    rw [List.map_cons]
    rw [List.lookup_cons] at h
    cases hx : x == n with
    | true =>
      simp only [hx] at h
      cases h
      have hc : ¬ (k0 == NameKind.free && env.scope.kind == .function && env.kindOf n == some .cell) = true := by simp [hk]
      simp only [hc]
      simp [List.lookup_cons, hx]
    | false =>
      simp only [hx] at h
      by_cases hc : (k0 == NameKind.free && env.scope.kind == .function && env.kindOf n == some .cell) = true
      · simp only [hc, if_true, List.lookup_cons, hx]
        exact ih h
      · simp only [hc, Bool.false_eq_true, if_false, List.lookup_cons, hx]
        exact ih h
/-- within a comprehension's block -/
theorem Ct.in_ (C : Ct X B Z g W n N ns) {scope : Scope} (hk : scope.kind = .function) {s : Shared} {H : Hp} {cl : List (Str × Addr)} {c : Addr} {fp : List Addr} : Ct (X.blk s H scope (compEnvC scope cl c X.env) fp) B Z g WN n N scope.names where
  at_ := ⟨C.at_.K, C.at_.w, C.at_.calm, C.at_.un, takes0, PassesOwn.never⟩
  eN := C.eN
  nd := C.nd
  room := C.room
  l := fun x h => look_relabel_keep (by decide) h
  c := fun x h => look_relabel_keep (by decide) h
  f := fun x h => look_relabel_free h
  gl := fun x h => look_relabel_keep (by decide) h
  fnc := fun x h => by
    show (scope.names.lookup x == some .cell) = true
    rw [h]; rfl
  kind := hk
  nm := fun x v h => by
    have z := C.nm x v h
    cases v with
    | fn i => exact z
    | bi => exact z
    | mf id => exact z
    | cst d => exact z
    | exc => exact z
/-- deeper: there is room for one frame more; the def's table -/
structure Dp (X : Cx) (g : Cfg) (n : Nat) (b : Option Bool) : Prop where
  room : Room (n + 1) X.A
  tab : b = some true → ∃ c P, X.env.code = .ref c ∧ GxR.TabB X.base X.mg c P ∧ Am.tab P ∈ g.T.l ∧ ∀ q, Am.lm P q ∉ g.T.l
  lam : b = none → ∃ c P, X.env.code = .ref c ∧ LamX.TabB X.base X.mg c P ∧ Am.lm P (X.env.qual ++ "<lambda>") ∈ g.T.l ∧ Am.tab P ∉ g.T.l ∧ ∀ q, Am.lm P q ∈ g.T.l → q = X.env.qual ++ "<lambda>"
end
end EV
namespace EV
open L2 PySem PySem.Spec PyProof.Rows
section
variable {X : Cx} {B : List Row} {Z : List (Str × GV)} {g : Cfg} {E : XK} {W : WX} {n : Nat} {N : List Str} {ns : Ns} {x : Str} {p pos : Pos} {a e : PySem.Expr} {es : List PySem.Expr} {ma : ME} {mr : MA}
def varB (N : List Str) (ns : Ns) (i : Nat) (x : Str) : Bool := nthB N i x && visB ns x && !(x == ("__debug__" : Str)) && !(x == ("__classdict__" : Str))
/-- a name of the def -/
theorem v_ (C : Ct X B Z g W n N ns) (i : Nat) (h : varB N ns i x = true) : PE X (.Name x pos) (te g W (mVar i)) := by
  unfold varB at h
  simp only [Bool.and_eq_true, Bool.not_eq_true'] at h
  obtain ⟨⟨⟨h1, h2⟩, h3⟩, h4⟩ := h
  exact e_var (C.nth h1) (C.vis h2) h3 h4
def glB' (ns : Ns) (x : Str) : Bool := glB ns x && !(x == ("__debug__" : Str)) && !(x == ("__name__" : Str))
theorem glB_of (h : glB' ns x = true) : glB ns x = true ∧ (x == ("__debug__" : Str)) = false ∧ x ≠ "__name__" := by
  unfold glB' at h
  simp only [Bool.and_eq_true, Bool.not_eq_true'] at h
  exact ⟨h.1.1, h.1.2, fun z => by rw [z] at h; exact absurd h.2 (by decide)⟩
/-- a constant of the module -/
theorem k_ (C : Ct X B Z g W n N ns) (d : D) (hz : Z.lookup x = some (.cst d)) (h : glB' ns x = true) : PE X (.Name x pos) (te g W (mC d)) := by
  obtain ⟨h1, h2, h3⟩ := glB_of h
  obtain ⟨v, u, k1, k2, k3⟩ := C.nm x _ hz
  exact e_c (pe_glob (C.glob h1) k1 k2 h2) fun H ι => by
    have := k3 H ι
    rw [C.at_.K] at this
    exact this
theorem i_ (i : Int) {j : Nat} : PE X (.Constant (.int i) j pos) (te g W (mC (.int i))) := e_c pe_int fun _ _ => .int _
theorem b_ (b : Bool) {j : Nat} : PE X (.Constant (.bool b) j pos) (te g W (mC (.bl b))) := e_c pe_bl fun _ _ => .bl _
theorem n_ {j : Nat} : PE X (.Constant .none j pos) (te g W (mC .non)) := e_c pe_non fun _ _ => .non
theorem s_ (y : Str) {j : Nat} : PE X (.Constant (.str y) j pos) (te g W (mC (.str y))) := e_c pe_str fun _ _ => .str _
def mFn (i : Nat) (a : MA) : ME := fun F e s => (a F e s).bind fun xs s1 => F i xs s1
theorem sp_at {i : Nat} {σ : L2.St} {H : Hp} {Q : VK} {mr : MA} (h : te g W (mFn i mr) σ H Q) : ta g W mr σ H fun vs H1 => spEv g i vs H1 Q (wat W σ) := by
  obtain ⟨ι, e, s, R, q, h⟩ := h
  exact ⟨ι, e, s, R, q, tR.bind h fun ds s1 vs H1 ι1 _ f1 R1 r1 h1 => ⟨ι1, ds, s1, R1, r1, h1⟩⟩
theorem e_fn (C : Ct X B Z g W n N ns) (i : Nat) {r : Row} (hz : Z.lookup x = some (.fn i)) (hr : B[i]? = some r) (hb : ∀ {f : Addr} {fd : FuncData}, Fun X.K r.x r.x r.st f fd → Binds X.K fd r.ps []) (h : glB' ns x = true)
    (ha : PA X (e :: es) (ta g W mr)) (he : starEach (e :: es) X.env = (false, eval e X.env) :: starEach es X.env := by rfl) (hpl : (backTo pos (starEach es X.env)).any (·.1) = false := by rfl) : PE X (.Call (.Name x p) (e :: es) [] pos) (te g W (mFn i mr)) := by
  obtain ⟨h1, h2, h3⟩ := glB_of h
  obtain ⟨rx, f, fd, k1, k2, k3⟩ := C.nm x _ hz r hr
  subst rx
  exact PE.imp (pe_callS (E := wat W) k3 C.room (C.glob h1) k1 k2.kp (hb k2) (fun σ => passAt C.at_.tk σ) ha h2 he hpl) fun σ H Q h => sp_at h
theorem e_fn0 (C : Ct X B Z g W n N ns) (i : Nat) {r : Row} (hz : Z.lookup x = some (.fn i)) (hr : B[i]? = some r) (hb : ∀ {f : Addr} {fd : FuncData}, Fun X.K r.x r.x r.st f fd → Binds X.K fd r.ps []) (h : glB' ns x = true) : PE X (.Call (.Name x p) [] [] pos) (te g W (mFn i mNil)) := by
  obtain ⟨h1, h2, h3⟩ := glB_of h
  obtain ⟨rx, f, fd, k1, k2, k3⟩ := C.nm x _ hz r hr
  subst rx
  refine ⟨fun pins s σ H Q I ⟨ι, e, st, R, q, h⟩ => ?_⟩
  refine wpAny_Call_Name_kw (ld_glob I (C.glob h1) k1 ?_ h2)
  exact PySem.W.callWith_K0 I.kIn k2.kp (run_fnS (E := wat W) (us := []) (vs := []) k3 C.room (hb k2) (passAt C.at_.tk σ) I .nil (⟨ι, [], st, R, .nil, h⟩ : spEv g i [] H Q (wat W σ)))
/-- keywords alone -/
def gP {α : Type} (m : Nat) (perm : List Nat) (us ws : List α) : List α := if us.isEmpty && ws.length == m then perm.filterMap fun j => ws[j]? else []
theorem gP_vals {m : Nat} {perm : List Nat} {us ws : List Value} {vs zs : List V} (h : Vals vs us) (h' : Vals zs ws) : Vals (gP m perm vs zs) (gP m perm us ws) := by
  have e1 : vs.isEmpty = us.isEmpty := by cases h <;> rfl
  have e2 : zs.length = ws.length := h'.length
  unfold gP
  rw [e1, e2]
  split
  · clear e1
    induction perm with
    | nil => exact .nil
    | cons j l ih =>
      cases hj : zs[j]? with
      | some v =>
        obtain ⟨u, k1, k2⟩ := h'.get hj
        rw [List.filterMap_cons, List.filterMap_cons, hj, k1]
        exact .cons k2 ih
      | none =>
        have k1 : ws[j]? = none := List.getElem?_eq_none (by have := List.getElem?_eq_none_iff.mp hj; omega)
        rw [List.filterMap_cons, List.filterMap_cons, hj, k1]
        exact ih
  · exact .nil
theorem gP_rvs {K : PySem.W.Frag} {H : Hp} {ι : List Addr} {m : Nat} {perm : List Nat} {us ws : List D} {vs zs : List V} (h : RVs K H ι us vs) (h' : RVs K H ι ws zs) : RVs K H ι (gP m perm us ws) (gP m perm vs zs) := by
  have e1 : us.isEmpty = vs.isEmpty := h.isEmpty
  have e2 : ws.length = zs.length := h'.length
  unfold gP
  rw [e1, e2]
  split
  · clear e1
    induction perm with
    | nil => exact .nil
    | cons j l ih =>
      cases hj : ws[j]? with
      | some v =>
        obtain ⟨u, k1, k2⟩ := h'.get hj
        rw [List.filterMap_cons, List.filterMap_cons, hj, k1]
        exact .cons k2 ih
      | none =>
        have k1 : zs[j]? = none := List.getElem?_eq_none (by have := List.getElem?_eq_none_iff.mp hj; omega)
        rw [List.filterMap_cons, List.filterMap_cons, hj, k1]
        exact ih
  · exact .nil
/-- how keywords alone bind -/
theorem kb_of {K : PySem.W.Frag} {fd : FuncData} {ps ks : List Str} {m : Nat} {perm : List Nat} (hm : ps.length = m) (h0 : 0 < m) (h : ∀ ws : List Value, ws.length = m → bindArgs fd ⟨[], ks.zip ws⟩ = pure (ps.zip (perm.filterMap fun j => ws[j]?))) : KBinds K fd ps ks (gP m perm) (gP m perm) where
  to := fun s us ws _ hl => by
    unfold gP at hl ⊢
    split at hl
    · rename_i hc
      simp only [Bool.and_eq_true, List.isEmpty_iff, beq_iff_eq] at hc
      obtain ⟨rfl, h2⟩ := hc
      rw [if_pos (by simp [h2])]
      exact .of_eq (h ws h2)
    · rw [hm] at hl
      simp at hl
      omega
  rel := fun r r' => gP_vals r r'
def mFnK (i m : Nat) (perm : List Nat) (a : MA) : ME := fun F e s => (a F e s).bind fun xs s1 => F i (gP m perm [] xs) s1
theorem PK.imp {kws : List PySem.Keyword} {t t' : TA} (h : PK X kws t) (k : ∀ σ H Q, t' σ H Q → t σ H Q) : PK X kws t' := ⟨fun pos pins s σ H Q I q => h.run pos pins s σ H Q I (k σ H Q q)⟩
theorem kw_nil : PK X [] (ta g W mNil) := PK.imp pk_nil fun σ H Q ⟨ι, e, s, R, q, h⟩ => h [] H ι Fw.refl R .nil
theorem kw_cons {nm : Option Str} {kpos : Pos} {kws : List PySem.Keyword} {mr : MA} (ha : PE X a (te g W ma)) (hr : PK X kws (ta g W mr)) : PK X (⟨nm, a, kpos⟩ :: kws) (ta g W (mCons ma mr)) :=
  PK.imp (pk_cons ha hr) fun σ H Q ⟨ι, e, s, R, q, h⟩ => ⟨ι, e, s, R, q, tR.bind h fun d s1 v H1 ι1 _ f1 R1 r1 h1 => ⟨ι1, e, s1, R1, q.fw f1, tR.bind h1 fun ds s2 vs H2 ι2 _ f2 R2 r2 h2 => h2 (v :: vs) H2 ι2 Fw.refl R2 (.cons (r1.fw f2) r2)⟩⟩
theorem e_fnK (C : Ct X B Z g W n N ns) (i m : Nat) (perm : List Nat) (ks : List Str) {r : Row} {kws : List PySem.Keyword} (hz : Z.lookup x = some (.fn i)) (hr : B[i]? = some r) (hb : ∀ {f : Addr} {fd : FuncData}, Fun X.K r.x r.x r.st f fd → KBinds X.K fd r.ps ks (gP m perm) (gP m perm)) (h : glB' ns x = true)
    (hkw : PK X kws (ta g W mr)) (hall : (backToKw pos (keywordEach kws X.env)).all (·.1.isSome) = true := by rfl) (hks : (backToKw pos (keywordEach kws X.env)).filterMap (·.1) = ks := by rfl)
    (hpl : ((backTo pos (starEach [] X.env)).any (·.1) || (backToKw pos (keywordEach kws X.env)).any (·.1.isNone)) = false := by rfl) : PE X (.Call (.Name x p) [] kws pos) (te g W (mFnK i m perm mr)) := by
  obtain ⟨h1, h2, h3⟩ := glB_of h
  obtain ⟨rx, f, fd, k1, k2, k3⟩ := C.nm x _ hz r hr
  subst rx
  refine ⟨fun pins s σ H Q I ⟨ι, en, st, R, q, h⟩ => ?_⟩
  refine wpAny_Call_Name_kw (ld_glob I (C.glob h1) k1 ?_ h2)
  refine PySem.W.callWith_KW0 (h₀ := X.base) I.ok.mod.kin k2.kp hall ?_ hpl
  refine thn (hkw.run pos pins s σ H _ I ⟨ι, en, st, R, q, tR.bind h fun ds s1 vs H1 ι1 _ f1 R1 r1 h1 => (⟨ι1, ds, s1, R1, r1, h1⟩ : ∃ ι1 ds s1, RS g.K g.T H1 ι1 s1 ∧ RVs g.K H1 ι1 ds vs ∧ tRe g (wat W σ) (g.F i (gP m perm [] ds) s1) H1 ι1 Q)⟩) fun ws s2 ⟨zs, H2, I2, rz, ι1, ds, s1, R1, r1, q2⟩ => ⟨I2.kIn, ?_⟩
  rw [hks]
  have F1 := k3
  refine wpAny_call (codeAny_mono (F1.run X.A X.stack s2 H2 ⟨[], ks.zip ws⟩ (gP m perm [] ws) (gP m perm [] zs) Q (wat W σ) C.room I2.env0 ((hb k2).to s2 [] ws I2.kIn ?_) ((hb k2).rel .nil rz) (⟨ι1, _, s1, R1, gP_rvs .nil r1, q2⟩ : spEv g i (gP m perm [] zs) H2 Q (wat W σ))) fun r s' hq => ?_)
  · rw [← (gP_vals (m := m) (perm := perm) (.nil : Vals [] []) rz).length]
    exact F1.len _ _ _ _ (⟨ι1, _, s1, R1, gP_rvs .nil r1, q2⟩ : spEv g i (gP m perm [] zs) H2 Q (wat W σ))
  cases r with
  | error e => exact passAt C.at_.tk σ pins H2 s2 e s' I2 hq
  | ok fl =>
    cases fl with
    | ret u => exact I2.after hq
    | next => exact False.elim hq
    | brk => exact False.elim hq
    | cont => exact False.elim hq
def cfg (K : PySem.W.Frag) (T : Tw) (B : List Row) (n : Nat) : Cfg := ⟨K, T, run B n⟩
/-- two levels a call: a generator expression's frame lies between -/
abbrev lv (n : Nat) : Nat := 2 * n + 2
/-- a def keeps its reading wherever it is read -/
structure RowOk (B : List Row) (Z : List (Str × GV)) (PX : Cx → Prop) (r : Row) : Prop where
  sc : FnScope r.N r.ps (defScope r.st)
  body : ∀ {X : Cx} {K : PySem.W.Frag} {T : Tw} {W : WX} {n : Nat}, PX X → (X.stack = X.env :: X.outer ∧ X.env.frame = some X.env.locals) → Ct X B Z (cfg K T B n) W (lv n) r.N (defScope r.st).names → Dp X (cfg K T B n) (lv n) r.gx → PSs X (defBody r.st) (ts (cfg K T B n) W r.m)
/-- a def's body, with its own code object -/
theorem okC {P : Program} {w : World} {K : PySem.W.Frag} {mg : Str → Option Value} {base : Heap} {x qual : Str} {st : PySem.Stmt} {f : Addr} {fd : FuncData} {N ps : List Str} {k : Nat} {sp : Sp} (F0 : Fun K x qual st f fd) (S : FnScope N ps (defScope st)) (len : ∀ vs H Q E, sp vs H Q E → vs.length = ps.length)
    (hb : ∀ (cdv : Value) (A : Around) (outer : List Env) (s : Shared) (H : Hp) (vs : List V) (Q : VK) (E : XK), fd.code = cdv → Room k (A.deeper (envOfC qual (defScope st) s.heap.objs.size f cdv)) → sp vs H Q E →
      ∃ t, PSs (cxOf (L2.CX P w) P w K mg base N qual (defScope st) f cdv A outer s H E) (defBody st) t ∧ t { nx := fun _ H' => Q .non H', rt := Q } (start N vs) H) : FnOk P w K mg base (L2.CX P w) (k + 1) f fd ps sp := by
  obtain ⟨oc, od, kV, doc, pm, an, cdv, ct, osl, rfl, lk, hcd⟩ := F0.ex
  exact fn_of lk hcd S len fun A outer s H vs Q E hr hsp => hb cdv A outer s H vs Q E rfl hr hsp
theorem RE.start {K : PySem.W.Frag} {H : Hp} {ι : List Addr} {N : List Str} {ds : List D} {vs : List V} (r : RVs K H ι ds vs) : RE K H ι (startE N.length ds) (start N vs) := by
  have hl := r.length
  refine ⟨by simp [startE, L2.start, hl], fun i d e => ?_⟩
  unfold startE at e
  unfold L2.start
  by_cases hi : i < ds.length
  · rw [List.getElem?_append_left (by simpa using hi), List.getElem?_map] at e
    cases hd : ds[i]? with
    | none => rw [hd] at e; cases e
    | some d' =>
      rw [hd] at e
      cases e
      obtain ⟨v, k1, k2⟩ := r.get hd
      exact ⟨v, by rw [List.getElem?_append_left (by rw [List.length_map]; omega), List.getElem?_map, k1] <;> rfl, k2⟩
  · rw [List.getElem?_append_right (by rw [List.length_map]; omega)] at e
    rw [List.getElem?_replicate] at e
    split at e <;> cases e
theorem fin_ts {g : Cfg} {E : XK} {r : R Fl} {H : Hp} {ι : List Addr} {Q : VK} (h : tRe g E (finF r) H ι Q) : tRs g (fun c d _ H => E c d H) r H ι { nx := fun _ H' => Q .non H', rt := Q } := by
  cases r with
  | ok d s =>
    cases d with
    | nx e => exact fun σ' H' ι' f R _ => h _ H' ι' f R .non
    | rt d => exact fun v H' ι' f R q => h v H' ι' f R q
    | bk e => exact h.elim
    | ct e => exact h.elim
    | xc x e => exact fun σ' c od H' ι' f R q k => h c od H' ι' f R k
  | ex x s => exact h.elim
  | no => exact h
/-- the name of a def's lambdas -/
def lq (x : Str) : Str := x ++ ".<locals>." ++ "<lambda>"
/-- what is known of the table P of a def -/
structure TabT (T : Tw) (r : Row) (P : Addr) : Prop where
  gen : r.gx = some true → Am.tab P ∈ T.l ∧ ∀ q, Am.lm P q ∉ T.l
  lam : r.gx = none → Am.lm P (lq r.x) ∈ T.l ∧ Am.tab P ∉ T.l ∧ ∀ q, Am.lm P q ∈ T.l → q = lq r.x
theorem fn_ok {P : Program} {w : World} {K : PySem.W.Frag} {mg : Str → Option Value} {base : Heap} {T : Tw} {B : List Row} {Z : List (Str × GV)} {PX : Cx → Prop}
    (hT : T.w = w) (hB : ∀ r ∈ B, RowOk B Z PX r) (hfn : ∀ (i : Nat) (r : Row), B[i]? = some r → ∃ f fd, mg r.x = some (.ref f) ∧ Fun K r.x r.x r.st f fd)
    (hPX : ∀ X : Cx, X.K = K → X.mg = mg → X.prog = P → X.w = w → X.base = base → PX X)
    (hgx : ∀ r ∈ B, r.gx ≠ some false → ∀ f fd, mg r.x = some (.ref f) → Fun K r.x r.x r.st f fd → ∃ c P, fd.code = .ref c ∧ LamX.TabB base mg c P ∧ TabT T r P)
    (hZ : ∀ x v, Z.lookup x = some v → match v with
      | .fn i => ∀ r : Row, B[i]? = some r → r.x = x
      | .bi => mg x = none
      | .mf id => mg x = some (.builtin id)
      | .cst d => ∃ v u, mg x = some u ∧ RelV v u ∧ ∀ H ι, RV K H ι d v
      | .exc => True) :
    ∀ (n i : Nat) (r : Row), B[i]? = some r → ∀ f fd, mg r.x = some (.ref f) → Fun K r.x r.x r.st f fd → FnOk P w K mg base (L2.CX P w) (lv n) f fd r.ps (spEv (cfg K T B n) i)
  | 0, i, r, hr, f, fd, _, _ => by
    have no : ∀ vs H Q E, ¬ spEv (cfg K T B 0) i vs H Q E := fun vs H Q E h => by
      obtain ⟨_, _, _, _, _, h⟩ := h
      exact h.elim
    exact ⟨fun vs H Q E h => absurd h (no vs H Q E), fun A outer s H args us vs Q E _ _ _ _ h => absurd h (no vs H Q E)⟩
  | n + 1, i, r, hr, f, fd, hm, F => by
    have ih := fn_ok (P := P) (w := w) (base := base) (T := T) hT hB hfn hPX hgx hZ n
    have ok := hB r (List.mem_of_getElem? hr)
    have sp_eq : ∀ {vs H Q E}, spEv (cfg K T B (n + 1)) i vs H Q E → ∃ ι ds s, RS K T H ι s ∧ RVs K H ι ds vs ∧ ds.length = r.ps.length ∧ tRe (cfg K T B n) E (finF (r.m (run B n) (startE r.N.length ds) s)) H ι Q := fun {vs H Q E} h => by
      obtain ⟨ι, ds, s, R, q, h⟩ := h
      have h' : tRe (cfg K T B n) E (runRow B[i]? (run B n) ds s) H ι Q := h
      rw [hr] at h'
      obtain ⟨h1, h2⟩ := tR.ite h'
      exact ⟨ι, ds, s, R, q, h1, h2⟩
    refine okC (k := 2 * n + 3) F ok.sc (fun vs H Q E h => ?_) (fun cdv A outer s H vs Q E hcd hroom h => ?_)
    · obtain ⟨ι, ds, st, _, q, hl, _⟩ := sp_eq h
      rw [← q.length, hl]
    · obtain ⟨ι, ds, st, R, q, hl, h2⟩ := sp_eq h
      refine ⟨_, ok.body (W := fun c d _ H => E c d H) (n := n) (T := T) (K := K) (hPX _ rfl rfl rfl rfl rfl) ⟨rfl, rfl⟩ ⟨⟨rfl, hT.symm, rfl, ?_, takes_of rfl rfl rfl rfl, passes_of rfl⟩, rfl, ok.sc.nd, hroom.mono (show 2 * n + 2 ≤ 2 * n + 3 by omega), fun x h => h, fun x h => h, fun x h => .inl h, fun x h => h, fun x h => rfl, ok.sc.kind, fun x v hz => ?_⟩ ⟨hroom, fun hg => ?_, fun hg => ?_⟩, ⟨ι, _, st, R, RE.start q, fin_ts h2⟩⟩
      · have := hroom.un
        show (A.deeper _).units + 200 < cLine
        omega
      · have z := hZ x v hz
        cases v with
        | fn j =>
          intro r' hr'
          have e := z r' hr'
          subst e
          obtain ⟨f', fd', k1, k2⟩ := hfn j r' hr'
          exact ⟨rfl, f', fd', k1, k2, ih j r' hr' f' fd' k1 k2⟩
        | bi => exact z
        | mf id => exact z
        | cst d => exact z
        | exc => exact z
      · obtain ⟨c, P', h1, h2, h3⟩ := hgx r (List.mem_of_getElem? hr) (by rw [hg]; decide) f fd hm F
        exact ⟨c, P', by rw [← h1]; exact hcd.symm, ⟨h2.code, h2.bm, h2.gP⟩, h3.gen hg⟩
      · obtain ⟨c, P', h1, h2, h3⟩ := hgx r (List.mem_of_getElem? hr) (by rw [hg]; decide) f fd hm F
        exact ⟨c, P', by rw [← h1]; exact hcd.symm, h2, h3.lam hg⟩
end
end EV
namespace EV
open L2 PySem PySem.Spec PyProof.Rows
section
variable {X : Cx} {B : List Row} {Z : List (Str × GV)} {g : Cfg} {E : XK} {W : WX} {n : Nat} {N : List Str} {ns : Ns} {x : Str} {p pos : Pos} {a b e : PySem.Expr} {es : List PySem.Expr} {ma mb : ME} {mr : MA}
abbrev scOf (ns : Ns) : Scope := { kind := .function, names := ns, isGenerator := false, isCoroutine := false }
theorem Ct.blkOk (C : Ct X B Z g W n N ns) {scope : Scope} {own : List (Str × Nat)} (h : blkC N (scOf ns) scope own = true) : BlkOk X.N X.env.scope scope own := by
  have k := blkOk_by h
  rw [C.eN]
  refine ⟨k.kind, k.uniq, k.ix, fun y hy e => ?_, k.own⟩
  rcases k.free y hy e with z | z
  · exact .inl (C.c _ z)
  · exact (C.f _ z).symm
/-- [elt for tg in iter if ..] -/
theorem lc_ (C : Ct X B Z g W n N ns) (own : List (Str × Nat)) {elt tg iter : PySem.Expr} {ifs : List PySem.Expr} {scope : Scope} {wi : MI} {m : MG} {t : MT} {el : ME} (hb : blkC N (scOf ns) scope own = true) (hi : PI X tg iter (ti g W wi))
    (h : ∀ {Y : Cx}, Ct Y B Z g WN n N scope.names → PG Y tg (gs g (own.map (·.2)) m) ∧ PTs Y ifs (tt g WN t) ∧ PE Y elt (te g WN el)) (hs : ∀ x, foldedSetIterable iter X.env x = pure x := by intro _; rfl) :
    PE X (.ListComp elt [⟨tg, iter, ifs, 0⟩] scope pos) (te g W (mLc wi m t el (own.map (·.2)))) :=
  have ok := C.blkOk hb
  e_lc C.at_ (by rw [C.eN]; exact C.nd) hi ok (fun _ _ _ _ _ => (h (C.in_ ok.kind)).1) (fun _ _ _ _ _ => (h (C.in_ ok.kind)).2.1) (fun _ _ _ _ _ => (h (C.in_ ok.kind)).2.2) hs
def swpB (scope : Scope) (t : Str) : Bool := !(scope.names.any fun (n, k) => n == t && (k == .local || k == .cell))
theorem Ct.swap (C : Ct X B Z g W n N ns) {elt : PySem.Expr} {cs : List PySem.Comprehension} {scope : Scope} {t : Str} {py spos : Pos} (hl : lclB ns t = true) (h1 : (py.line == pos.line) = true) (h2 : swpB scope t = true) : swapsWith (.ListComp elt cs scope pos) (some (.Name t py)) spos.line X.env = pure true := by
  have k1 : X.env.kindOf t = some .local := C.lcl hl
  have k2 : X.env.blockKind = .function := by unfold Env.blockKind; rw [C.kind]; rfl
  unfold swapsWith
  simp only [pure_bind, k1, k2, PySem.Expr.pos, h1, beq_self_eq_true, Bool.true_and]
  unfold swpB at h2
  rw [h2]
/-- name = [..] -/
theorem setLc_ (C : Ct X B Z g W n N ns) (i : Nat) (own : List (Str × Nat)) {y : Str} {py spos : Pos} {elt tg iter : PySem.Expr} {ifs : List PySem.Expr} {scope : Scope} {wi : MI} {m : MG} {t : MT} {el : ME} (hb : blkC N (scOf ns) scope own = true) (hy : nthB N i y = true) (hl : lclB ns y = true) (h1 : (py.line == pos.line) = true) (h2 : swpB scope y = true) (hi : PI X tg iter (ti g W wi))
    (h : ∀ {Y : Cx}, Ct Y B Z g WN n N scope.names → PG Y tg (gs g (own.map (·.2)) m) ∧ PTs Y ifs (tt g WN t) ∧ PE Y elt (te g WN el)) (hs : ∀ x, foldedSetIterable iter X.env x = pure x := by intro _; rfl) :
    PS X (.Assign [.Name y py] (.ListComp elt [⟨tg, iter, ifs, 0⟩] scope pos) spos) (ts g W (sAsg (mLc wi m t el (own.map (·.2))) (gNm i))) :=
  have ok := C.blkOk hb
  s_setLc C.at_ (by rw [C.eN]; exact C.nd) (C.nth hy) (C.lcl hl) (C.swap hl h1 h2) hi ok (fun _ _ _ _ _ => (h (C.in_ ok.kind)).1) (fun _ _ _ _ _ => (h (C.in_ ok.kind)).2.1) (fun _ _ _ _ _ => (h (C.in_ ok.kind)).2.2) hs
def tgB (N : List Str) (ns : Ns) (ws : List Nat) (i : Nat) (x : Str) : Bool := nthB N i x && locB ns x && ws.contains i
/-- a name as a target -/
theorem gn_ (C : Ct X B Z g W n N ns) (i : Nat) {ws : List Nat} (h : tgB N ns ws i x = true) : PG X (.Name x pos) (gs g ws (gNm i)) := by
  unfold tgB at h
  simp only [Bool.and_eq_true] at h
  obtain ⟨⟨h1, h2⟩, h3⟩ := h
  exact g_name (by simpa using h3) (by rw [C.eN]; exact C.nd) (C.nth h1) (C.loc h2) (C.locf h2)
def tyN : Nat → String
  | 0 => "int" | 1 => "bool" | 2 => "str" | 3 => "tuple" | 4 => "list" | 5 => "dict" | _ => "NoneType"
def D.kd : D → Nat
  | .int _ => 0 | .bl _ => 1 | .str _ => 2 | .tup _ => 3 | .lst _ => 4 | .non => 6 | .dct _ => 7 | .ty _ => 7 | .set _ => 7 | .kls _ => 7 | .scr _ _ => 7 | .tpn _ => 3
def isK (k c : Nat) : Bool := k == c || (k == 1 && c == 0)
theorem kit_all : ∀ k < 7, ∀ c < 6, kitB (tyN k) (tyN c) = some (isK k c) := by decide +kernel
theorem tyX_of {K : PySem.W.Frag} {T : Tw} {H : Hp} {ι : List Addr} {s : S} {d : D} {v : V} (R : RS K T H ι s) (h : RV K H ι d v) (hk : d.kd < 7) (hl : ∀ r, d = .lst r → (s.seq r).isSome = true) : TyX K H v (.type (tyN d.kd)) := by
  cases h with
  | non => exact .base .non
  | bl b => exact .base (.bl b)
  | int i => exact .base (.int i)
  | str x => exact .base (.str x)
  | tup h1 h2 =>
    rcases h1 with h1 | ⟨o, its, m, k1, k2, _⟩
    · rcases h1 with h1 | ⟨o, h1⟩
      · exact .base (.tup h1)
      · exact .fTuple h1
    · exact .kTuple k1 k2
  | @lst r a h1 =>
    obtain ⟨l, hs⟩ := Option.isSome_iff_exists.mp (hl r rfl)
    obtain ⟨xs, h2, _⟩ := R.seq h1 hs
    rcases h2 with h2 | ⟨o, its, m, k1, k2, _⟩
    · rcases h2 with h2 | ⟨o, h2⟩
      · exact .base (.lst h2)
      · exact .base (.frz h2)
    · exact .kList k1 k2
  | dct h1 => exact absurd hk (by show ¬ (7 < 7); omega)
  | set h1 => exact absurd hk (by show ¬ (7 < 7); omega)
  | ty m => exact absurd hk (by show ¬ (7 < 7); omega)
  | kls h1 => exact absurd hk (by show ¬ (7 < 7); omega)
  | scr _ h1 _ _ => exact absurd hk (by show ¬ (7 < 7); omega)
  | tpn h1 h2 =>
    obtain ⟨o, h1, _⟩ := h1
    exact .fTuple h1
def okK (d : D) (s : S) : Bool := match d with
  | .lst r => (s.seq r).isSome
  | .dct _ => false
  | .set _ => false
  | .ty _ => false
  | .kls _ => false
  | .scr _ _ => false
  | _ => true
theorem okK_of {d : D} {s : S} (h : okK d s = true) : d.kd < 7 ∧ ∀ r, d = .lst r → (s.seq r).isSome = true := by
  cases d with
  | lst r => exact ⟨(by show 4 < 7; omega), fun r' e => by cases e; exact h⟩
  | dct r => cases h
  | set r => cases h
  | ty r => cases h
  | kls r => cases h
  | scr k r => cases h
  | non => exact ⟨(by show 6 < 7; omega), fun r e => by cases e⟩
  | bl b => exact ⟨(by show 1 < 7; omega), fun r e => by cases e⟩
  | int b => exact ⟨(by show 0 < 7; omega), fun r e => by cases e⟩
  | str b => exact ⟨(by show 2 < 7; omega), fun r e => by cases e⟩
  | tup b => exact ⟨(by show 3 < 7; omega), fun r e => by cases e⟩
  | tpn b => exact ⟨(by show 3 < 7; omega), fun r e => by cases e⟩
def dIsi (cs : List Nat) (d : D) (s : S) : R D := if okK d s = true then .ok (.bl (cs.any (isK d.kd))) s else .no
def mIsi (cs : List Nat) (a : ME) : ME := fun F e s => (a F e s).bind (dIsi cs)
theorem kitAny_of {K : PySem.W.Frag} {k : Nat} (hk : k < 7) : ∀ {cs : List Nat}, (∀ c ∈ cs, c < 6) → PySem.W.kitAny K (.type (tyN k)) (cs.map fun c => .type (tyN c)) = some (cs.any (isK k))
  | [], _ => rfl
  | c :: cs, h => by
    have h0 := kit_ty (K := K) (kit_all k hk c (h c List.mem_cons_self))
    have ih := kitAny_of (K := K) hk (cs := cs) fun c hc => h c (List.mem_cons_of_mem _ hc)
    rw [List.map_cons, List.any_cons]
    refine kitAny_cons h0 (fun e => ?_) (fun e => ?_)
    · rw [e, Bool.false_or]; exact ih
    · rw [e, Bool.true_or]
/-- isinstance(a, T) -/
theorem isi1 (C : Ct X B Z g W n N ns) (c : Nat) {t : Str} {pt : Pos} (h1 : glB' ns "isinstance" = true) (z1 : Z.lookup ("isinstance" : Str) = some GV.bi) (h2 : glB' ns t = true) (hc : c < 6) (ht : bootBuiltins t = some (.type (tyN c))) (z2 : Z.lookup t = some .bi) (ha : PE X a (te g W ma))
    (he : starEach [a, .Name t pt] X.env = (false, eval a X.env) :: starEach [.Name t pt] X.env := by rfl) :
    PE X (.Call (.Name "isinstance" p) [a, .Name t pt] [] pos) (te g W (mIsi [c] ma)) := by
  obtain ⟨k1, k2, k3⟩ := glB_of h1
  obtain ⟨q1, q2, q3⟩ := glB_of h2
  refine PE.imp (pe_callB call_isi (C.glob k1) (C.nm _ _ z1) boot_isinstance (pa_cons ha (pa_cons (pe_bltn (v := .ty (tyN c)) (C.glob q1) (C.nm _ _ z2) ht rfl q3 q2) pa_nil) he) k3 k2 he (by rfl)) fun σ H Q ⟨ι, e, s, R, q, h⟩ => ⟨ι, e, s, R, q, tR.bind h fun d s1 v H1 ι1 _ f1 R1 r1 h1 => ?_⟩
  unfold dIsi at h1
  obtain ⟨w1, w2⟩ := tR.ite h1
  obtain ⟨w3, w4⟩ := okK_of w1
  have ty := tyX_of R1 r1 w3 w4
  refine ⟨v, .ty (tyN c), .type (tyN d.kd), .type (tyN c), isK d.kd c, rfl, .ty _, by rw [C.at_.K]; exact ty, kit_ty (kit_all _ w3 c hc), ?_⟩
  have := tR.of w2 R1 (.bl _)
  simpa using this
/-- isinstance(a, (T, U)) -/
theorem isi2 (C : Ct X B Z g W n N ns) (c d : Nat) {t u : Str} {pt pu pT : Pos} {kT : Nat} (h1 : glB' ns "isinstance" = true) (z1 : Z.lookup ("isinstance" : Str) = some GV.bi) (h2 : glB' ns t = true) (hc : c < 6) (ht : bootBuiltins t = some (.type (tyN c))) (z2 : Z.lookup t = some .bi)
    (h3 : glB' ns u = true) (hd : d < 6) (hu : bootBuiltins u = some (.type (tyN d))) (z3 : Z.lookup u = some .bi) (ha : PE X a (te g W ma))
    (he : starEach [a, .Tuple [.Name t pt, .Name u pu] kT pT] X.env = (false, eval a X.env) :: starEach [.Tuple [.Name t pt, .Name u pu] kT pT] X.env := by rfl) :
    PE X (.Call (.Name "isinstance" p) [a, .Tuple [.Name t pt, .Name u pu] kT pT] [] pos) (te g W (mIsi [c, d] ma)) := by
  obtain ⟨k1, k2, k3⟩ := glB_of h1
  obtain ⟨q1, q2, q3⟩ := glB_of h2
  obtain ⟨o1, o2, o3⟩ := glB_of h3
  refine PE.imp (pe_callB call_isiT (C.glob k1) (C.nm _ _ z1) boot_isinstance (pa_cons ha (pa_cons (pe_tup (pa_cons (pe_bltn (v := .ty (tyN c)) (C.glob q1) (C.nm _ _ z2) ht rfl q3 q2) (pa_cons (pe_bltn (v := .ty (tyN d)) (C.glob o1) (C.nm _ _ z3) hu rfl o3 o2) pa_nil))) pa_nil) he) k3 k2 he (by rfl))
    fun σ H Q ⟨ι, e, s, R, q, h⟩ => ⟨ι, e, s, R, q, tR.bind h fun dd s1 v H1 ι1 _ f1 R1 r1 h1 => ?_⟩
  unfold dIsi at h1
  obtain ⟨w1, w2⟩ := tR.ite h1
  obtain ⟨w3, w4⟩ := okK_of w1
  have ty := tyX_of R1 r1 w3 w4
  refine ⟨(by show 2 ≤ sizeLine; decide), fun tp hp => ?_⟩
  have ty' := tyX_of (R1.new (o := .tup [.ty (tyN c), .ty (tyN d)]) hp) (r1.fw (Fw.new hp)) w3 w4
  exact ⟨v, tp, _, .type (tyN dd.kd), [.type (tyN c), .type (tyN d)], [c, d].any (isK dd.kd), rfl, upd_same, .cons (.ty _) (.cons (.ty _) .nil), by rw [C.at_.K]; exact ty', kitAny_of w3 (cs := [c, d]) (by simp [hc, hd]), w2 _ _ _ (Fw.new hp) (R1.new hp) (.bl _)⟩
/-- a built-in function by its name -/
theorem bi_ (C : Ct X B Z g W n N ns) {id : String} {f : List D → S → R D} (hc : CallR X (.builtin id) (rc g f)) (hz : Z.lookup x = some .bi) (h : glB' ns x = true) (hv : bootBuiltins x = some (.builtin id)) (ha : PA X (e :: es) (ta g W mr))
    (he : starEach (e :: es) X.env = (false, eval e X.env) :: starEach es X.env := by rfl) (hpl : (backTo pos (starEach es X.env)).any (·.1) = false := by rfl) : PE X (.Call (.Name x p) (e :: es) [] pos) (te g W (mCall f mr)) := by
  obtain ⟨k1, k2, k3⟩ := glB_of h
  exact e_callB hc (C.glob k1) (C.nm _ _ hz) hv ha k3 k2 he hpl
theorem ty_ (C : Ct X B Z g W n N ns) {T : String} {f : List D → S → R D} (hc : CallR X (.type T) (rc g f)) (hz : Z.lookup x = some .bi) (h : glB' ns x = true) (hv : bootBuiltins x = some (.type T)) (ha : PA X (e :: es) (ta g W mr))
    (he : starEach (e :: es) X.env = (false, eval e X.env) :: starEach es X.env := by rfl) (hpl : (backTo pos (starEach es X.env)).any (·.1) = false := by rfl) : PE X (.Call (.Name x p) (e :: es) [] pos) (te g W (mCall f mr)) := by
  obtain ⟨k1, k2, k3⟩ := glB_of h
  exact e_callTy hc (C.glob k1) (C.nm _ _ hz) hv ha k3 k2 he hpl
/-- a function of a module -/
theorem mf_ (C : Ct X B Z g W n N ns) {id : String} {f : List D → S → R D} (hc : CallR X (.builtin id) (rc g f)) (hz : Z.lookup x = some (.mf id)) (h : glB' ns x = true) (ha : PA X (e :: es) (ta g W mr))
    (he : starEach (e :: es) X.env = (false, eval e X.env) :: starEach es X.env := by rfl) (hpl : (backTo pos (starEach es X.env)).any (·.1) = false := by rfl) : PE X (.Call (.Name x p) (e :: es) [] pos) (te g W (mCall f mr)) := by
  obtain ⟨k1, k2, k3⟩ := glB_of h
  exact PE.imp (pe_callBfun hc (C.glob k1) (C.nm _ _ hz) ha k2 he hpl) fun σ H Q ⟨ι, e, s, R, q, h⟩ => ⟨ι, e, s, R, q, tR.bind h fun ds s1 vs H1 ι1 _ f1 R1 r1 h1 => ⟨_, ι1, ds, s1, R1, r1, h1⟩⟩
def bGcd : List D → S → R D
  | [.int i, .int j], s => .ok (.int ((Nat.gcd i.natAbs j.natAbs : Nat) : Int)) s
  | _, _ => .no
theorem c_gcd : CallR X (.builtin "math.gcd") (rc g bGcd) := by
  intro pins s σ H xs us Q I r ⟨E, ι, ds, st, R, rv, q⟩
  unfold bGcd at q
  split at q
  · cases rv with
    | cons r1 r2 =>
      cases r2 with
      | cons r2 r3 =>
        cases r3
        cases r1
        cases r2
        exact cr_gcd pins s σ H _ us Q I r ⟨_, _, rfl, tR.of q R (.int _)⟩
  · exact q.elim
end
end EV
namespace EV
open L2 PySem PySem.Spec PyProof.Rows
section
variable {X : Cx} {B : List Row} {Z : List (Str × GV)} {g : Cfg} {E : XK} {W : WX} {n : Nat} {N : List Str} {ns : Ns} {x y : Str} {p pos px py pt pt2 : Pos} {a b e : PySem.Expr} {es : List PySem.Expr} {ma mb : ME} {mr : MA} {kt k2 : Nat}
theorem Ct.bk (C : Ct X B Z g W n N ns) : X.env.blockKind = .function := by unfold Env.blockKind; rw [C.kind]; rfl
def star1 (es : List PySem.Expr) : Bool := es.any fun | .Starred .. => true | _ => false
/-- a, b = x, y: from the right -/
theorem swp2 (C : Ct X B Z g W n N ns) (hx : lclB ns x = true) (hy : lclB ns y = true) (hl : (py.line == px.line) = true) (hne : (x == y) = false) (hc : ([a, b].all (foldedForSure 8) || [a, b].all (constantsAlone 8) || star1 [a, b]) = false) :
    swappedStores [.Tuple [.Name x px, .Name y py] kt pt] (.Tuple [a, b] k2 pt2) X.env = pure (some [x, y]) := by
  have k1 : X.env.kindOf x = some .local := C.lcl hx
  have k2 : X.env.kindOf y = some .local := C.lcl hy
  simp only [Bool.or_eq_false_iff] at hc
  obtain ⟨⟨h1, h2⟩, h3⟩ := hc
  have hne' : (y == x) = false := by
    rw [← hne]
    exact Bool.eq_iff_iff.mpr ⟨fun h => by rw [beq_iff_eq.mp h]; simp, fun h => by rw [beq_iff_eq.mp h]; simp⟩
  unfold swappedStores
  simp only [pure_bind, C.bk, List.length_cons, List.length_nil, List.head?_cons, Option.map_some, Option.getD_some, PySem.Expr.pos, List.filterMap_cons, List.filterMap_nil, k1, k2, beq_self_eq_true, Bool.true_and, hl, if_true]
  have d2 : [x, y].eraseDups = [x, y] := by simp [List.eraseDups_cons, hne']
  rw [d2, if_neg (by decide), if_neg (fun z => by have z' : star1 [a, b] = true := z; rw [h3] at z'; cases z'), if_neg (show ¬ (0 + 1 + 1 != 0 + 1 + 1 || [x, y].length != 0 + 1 + 1) = true from by simp), if_neg (by rw [h1]; decide), if_neg (by rw [h2]; decide)]
def sPar2 (i j : Nat) (a : MA) : MS := fun F e s => (a F e s).st e fun ds s1 => match ds with
  | [x, y] => .ok (.nx ((e.set i (some x)).set j (some y))) s1
  | _ => .no
theorem par2_ (C : Ct X B Z g W n N ns) (i j : Nat) (hi : nthB N i x = true) (hj : nthB N j y = true) (hx : lclB ns x = true) (hy : lclB ns y = true) (hl : (py.line == px.line) = true) (hne : (x == y) = false)
    (hc : ([a, b].all (foldedForSure 8) || [a, b].all (constantsAlone 8) || star1 [a, b]) = false) (ha : PA X [a, b] (ta g W mr)) : PS X (.Assign [.Tuple [.Name x px, .Name y py] kt pt] (.Tuple [a, b] k2 pt2) pos) (ts g W (sPar2 i j mr)) := by
  have hij : i ≠ j := fun z => by
    have h1 := C.nth hi
    have h2 := C.nth hj
    rw [z, h2] at h1
    cases h1
    simp at hne
  refine PS.imp (ps_par C.at_.calm (by rw [C.eN]; exact C.nd) (C.nth hi) (C.nth hj) hij (C.lcl hx) (C.lcl hy) ha (swp2 C hx hy hl hne hc)) fun D σ H ⟨ι, e, s, R, q, h⟩ => ⟨ι, e, s, R, q, tRs.bind h q fun ds s1 vs H1 ι1 _ f1 R1 r1 h1 => ?_⟩
  split at h1
  · cases r1 with
    | cons r1 r2 =>
      cases r2 with
      | cons r2 r3 =>
        cases r3
        exact ⟨_, _, rfl, h1 _ H1 ι1 Fw.refl R1 (((q.fw f1).set r1 i).set r2 j)⟩
  · exact h1.elim
theorem swp_const {ts : List PySem.Expr} {vs : List PySem.Expr} {env : Env} (h : vs.all (foldedForSure 8) = true) : swappedStores [.Tuple ts kt pt] (.Tuple vs k2 pt2) env = pure none := by
  unfold swappedStores
  simp only [pure_bind]
  repeat' split
  all_goals first | rfl | skip
  all_goals (rename_i h1; first | exact absurd h h1 | skip)
def celB (ns : Ns) (x : Str) : Bool := match ns.lookup x with
  | some .cell => true
  | _ => false
theorem Ct.cel (C : Ct X B Z g W n N ns) (h : celB ns x = true) : (X.env.kindOf x == some NameKind.local) = false := by
  unfold celB at h
  split at h
  · have z : X.env.kindOf x = some .cell := C.c _ (by assumption)
    rw [z]; rfl
  · cases h
/-- a captured name among the targets: from the left -/
theorem swp_cell2 (C : Ct X B Z g W n N ns) (h : (celB ns x || celB ns y) = true) : swappedStores [.Tuple [.Name x px, .Name y py] kt pt] (.Tuple [a, b] k2 pt2) X.env = pure none := by
  rcases Bool.or_eq_true_iff.mp h with h | h
  · unfold swappedStores
    simp only [pure_bind, List.filterMap_cons, List.filterMap_nil, C.cel h, Bool.false_and, Bool.false_eq_true, if_false]
    by_cases hq : (X.env.kindOf y == some NameKind.local && py.line == (Option.map (fun z => z.pos.line) [PySem.Expr.Name x px, PySem.Expr.Name y py].head?).getD 0) = true
    · simp only [hq, if_true]
      repeat' split
      all_goals first | rfl | (exfalso; simp_all)
    · simp only [hq]
      repeat' split
      all_goals first | rfl | (exfalso; simp_all)
  · unfold swappedStores
    simp only [pure_bind, List.filterMap_cons, List.filterMap_nil, C.cel h, Bool.false_and, Bool.false_eq_true, if_false]
    by_cases hq : (X.env.kindOf x == some NameKind.local && px.line == (Option.map (fun z => z.pos.line) [PySem.Expr.Name x px, PySem.Expr.Name y py].head?).getD 0) = true
    · simp only [hq, if_true]
      repeat' split
      all_goals first | rfl | (exfalso; simp_all)
    · simp only [hq]
      repeat' split
      all_goals first | rfl | (exfalso; simp_all)
end
end EV
namespace EV
open L2 PySem PySem.Spec PyProof.Rows
section
variable {X : Cx} {B : List EV.Row} {Z : List (Str × GV)} {g : Cfg} {E : XK} {W : WX} {n : Nat} {N : List Str} {ns : Ns} {x y : Str} {p pos px py pt pt2 apos cpos : Pos} {a b c e o i : PySem.Expr} {es : List PySem.Expr} {ma mb mc : ME} {mr : MA} {kt k2 : Nat}
def asB2 {α : Type} (d : D) (s : S) (f : Bool → R α) : R α := match d with
  | .bl k => f k
  | _ => .no
def mChain (f f' : D → D → S → R D) (a b c : ME) : ME := fun F e s => (a F e s).bind fun x s1 => (b F e s1).bind fun y s2 => (f x y s2).bind fun z s3 => asB2 z s3 fun k => if k then (c F e s3).bind fun w s4 => f' y w s4 else .ok (.bl false) s3
theorem chain_sound {r : D → D → S → R D} {f' : D → D → S → R D} {σ : L2.St} {H : Hp} {Q : VK} (h : te g W (mChain r f' ma mb mc) σ H Q) : tChain (ro g r) (ro g f') (te g W ma) (te g W mb) (te g W mc) σ H Q := by
  obtain ⟨ι, e, s, R, q, h⟩ := h
  refine ⟨ι, e, s, R, q, tR.bind h fun d s1 v H1 ι1 _ f1 R1 r1 h1 => ⟨ι1, e, s1, R1, q.fw f1, tR.bind h1 fun d2 s2 v2 H2 ι2 _ f2 R2 r2 h2 => ⟨_, ι2, d, d2, s2, R2, r1.fw f2, r2, tR.bind h2 fun d3 s3 v3 H3 ι3 _ f3 R3 r3 h3 => ?_⟩⟩⟩
  unfold asB2 at h3
  cases r3 with
  | bl k =>
    refine ⟨k, rfl, ?_⟩
    cases k with
    | true =>
      simp only [if_true] at h3 ⊢
      exact ⟨ι3, e, s3, R3, ((q.fw f1).fw f2).fw f3, tR.bind h3 fun d4 s4 v4 H4 ι4 _ f4 R4 r4 h4 => ⟨_, ι4, d2, d4, s4, R4, (r2.fw f3).fw f4, r4, h4⟩⟩
    | false => exact tR.of h3 R3 (.bl _)
  | _ => exact h3.elim
theorem e_chain {op op' : PySem.CmpOp} {f f' : D → D → S → R D} (ho : OpR X (compareOp op) (ro g f)) (ho' : OpR X (compareOp op') (ro g f')) (ha : PE X a (te g W ma)) (hb : PE X b (te g W mb)) (hc : PE X c (te g W mc)) (hm : lastMarks [op, op'] [b, c] = false) :
    PE X (.Compare a [op, op'] [b, c] pos) (te g W (mChain f f' ma mb mc)) := PE.imp (pe_chain ho ho' ha hb hc hm) fun _ _ _ h => chain_sound h
theorem t_chain {op op' : PySem.CmpOp} {f f' : D → D → S → R D} (ho : OpR X (compareOp op) (ro g f)) (ho' : OpR X (compareOp op') (ro g f')) (ha : PE X a (te g W ma)) (hb : PE X b (te g W mb)) (hc : PE X c (te g W mc)) (hm : lastMarks [op, op'] [b, c] = false) :
    PT X (.Compare a [op, op'] [b, c] pos) (tt g W (tBl (mChain f f' ma mb mc))) := PT.imp (pt_chain ho ho' ha hb hc hm) fun σ H Q ⟨ι, e, s, R, q, h⟩ => chain_sound ⟨ι, e, s, R, q, by
      have h' : tRt g (wat W σ) ((mChain f f' ma mb mc g.F e s).bind asB) H ι Q := h
      exact tR.bind h' fun d s1 v H1 ι1 _ f1 R1 r1 h1 => asB_ok R1 r1 h1⟩
def own1 {α : Type} (d : D) (s : S) (f : Nat → List D → R α) : R α := match d with
  | .lst r => match s.own r with
    | some l => f r l
    | none => .no
  | _ => .no
theorem own1_ok {α β : Type} {Rl : Hp → List Addr → α → β → Prop} {d : D} {s : S} {f : Nat → List D → R α} {H : Hp} {ι : List Addr} {Q : β → Hp → Prop} {v : V} (R : RS g.K g.T H ι s) (h : RV g.K H ι d v) (q : tR g E Rl (own1 d s f) H ι Q) :
    ∃ r a l xs, v = .ref a ∧ ι[r]? = some a ∧ s.own r = some l ∧ H a = some (.lst xs) ∧ RVs g.K H ι l xs ∧ tR g E Rl (f r l) H ι Q := by
  unfold own1 at q
  cases h with
  | @lst r a h1 =>
    simp only at q
    cases hs : s.own r with
    | none => rw [hs] at q; exact q.elim
    | some l =>
      rw [hs] at q
      obtain ⟨xs, k1, k2⟩ := R.own h1 hs
      exact ⟨r, a, l, xs, rfl, h1, hs, k1, k2, q⟩
  | _ => exact q.elim
theorem put_ok {r : Nat} {a : Addr} {l l' : List D} {ys : List V} {s : S} {H : Hp} {ι : List Addr} (R : RS g.K g.T H ι s) (hi : ι[r]? = some a) (ho : s.own r = some l) (hr : RVs g.K H ι l' ys) :
    Fw g.K H ι (upd H a (.lst ys)) ι ∧ RS g.K g.T (upd H a (.lst ys)) ι (s.put r (.lst l')) := by
  have hg := S.own_get ho
  have f := Fw.put (o := .lst ys) R hg rfl hi
  exact ⟨f, R.write hg rfl hi ⟨ys, upd_same, hr.fw f⟩⟩
def isL (d : D) (s : S) : Bool := match d with
  | .lst r => (s.seq r).isSome
  | _ => false
def mMt (f : D → List D → S → R D) (o : ME) (a : MA) : ME := fun F e s => (o F e s).bind fun x s1 => if isL x s1 = true then (a F e s1).bind fun ys s2 => f x ys s2 else .no
def MtS (g : Cfg) (r : V → List V → Hp → VK → Prop) (f : D → List D → S → R D) : Prop := ∀ {E : XK} {dx : D} {ds : List D} {x : V} {vs : List V} {H : Hp} {ι : List Addr} {s : S} {Q : VK}, RS g.K g.T H ι s → RV g.K H ι dx x → RVs g.K H ι ds vs → tRe g E (f dx ds s) H ι Q → r x vs H Q
/-- o.m(a, ..), o a list -/
theorem e_mt (A : At X g W) {name : Str} {id : String} {r : V → List V → Hp → VK → Prop} {f : D → List D → S → R D} (slot : Slot "list" name id) (ty : typeOf (.builtin id) = pure (.type "method_descriptor")) (hm : MtM X id r) (hf : MtS g r f) (ho : PE X o (te g W ma)) (ha : PA X (e :: es) (ta g W mr))
    (hbase : attributeBase o name X.env (eval o X.env) = eval o X.env := by rfl)
    (hfew : ((backTo cpos (starEach (e :: es) X.env)).all (fun x => !x.1) && (backToKw cpos (keywordEach [] X.env)).all (fun x => x.1.isSome)
      && decide ((e :: es).length + ([] : List PySem.Keyword).length + (if ([] : List PySem.Keyword).isEmpty then 0 else 1) < 30)) = true := by rfl)
    (hline : (apos.endLine == cpos.line) = true := by rfl) (hs : starEach (e :: es) X.env = (false, eval e X.env) :: starEach es X.env := by rfl) (hplain : (backTo cpos (starEach es X.env)).any (·.1) = false := by rfl) :
    PE X (.Call (.Attribute o name apos) (e :: es) [] cpos) (te g W (mMt f ma mr)) :=
  PE.imp (pe_bm PySem.F.plainAttrs_list slot ty hm ho ha hbase hfew hline hs hplain) fun σ H Q ⟨ι, en, s, R, q, h⟩ => ⟨ι, en, s, R, q, tR.bind h fun d s1 v H1 ι1 _ f1 R1 r1 h1 => by
    obtain ⟨h2, h3⟩ := tR.ite h1
    unfold isL at h2
    cases r1 with
    | @lst r a k =>
      obtain ⟨l, hs⟩ := Option.isSome_iff_exists.mp h2
      obtain ⟨xs, k1, k2⟩ := R1.seq k hs
      refine ⟨.inl ⟨rfl, xs, by rw [A.K]; exact k1⟩, ι1, en, s1, R1, q.fw f1, tR.bind h3 fun ds s2 vs H2 ι2 _ f2 R2 r2 h4 => hf R2 (.lst (f2.at k)) r2 h4⟩
    | _ => cases h2⟩
def fApp (x : D) (ys : List D) (s : S) : R D := match ys with
  | [y] => own1 x s fun r l => if l.length < 100000 then .ok .non (s.put r (.lst (l ++ [y]))) else .no
  | _ => .no
theorem app_s : MtS g rAppend fApp := by
  intro E dx ds x vs H ι s Q R rx rv h
  unfold fApp at h
  split at h
  · cases rv with
    | cons r1 r2 =>
      cases r2
      obtain ⟨r, a, l, xs, rfl, hi, ho, hH, hr, h2⟩ := own1_ok R rx h
      obtain ⟨hl, h3⟩ := tR.ite h2
      obtain ⟨k1, k2⟩ := put_ok R hi ho (hr.append (.cons r1 .nil))
      exact ⟨a, xs, _, rfl, rfl, hH, by rw [← hr.length]; exact Nat.lt_of_lt_of_le hl (by decide), h3 _ _ _ k1 k2 .non⟩
  · exact h.elim
def atN (n : Nat) (d : D) : Option Nat := match d with
  | .int i => ixN n i
  | _ => none
def stL (x y d : D) (s : S) : R Unit := own1 x s fun r l => match atN l.length y with
  | some j => .ok () (s.put r (.lst (l.set j d)))
  | none => .no
def rst (g : Cfg) : TSet := fun x y v H Q => ∃ E ι dx dy d s, RS g.K g.T H ι s ∧ RV g.K H ι dx x ∧ RV g.K H ι dy y ∧ RV g.K H ι d v ∧ tR g E (fun _ _ _ _ => True) (stL dx dy d s) H ι (fun (_ : Unit) H' => Q H')
theorem set_all : PSet X (rst g) := by
  intro pins s σ H o i v ov iv u Q I ro ri rv ⟨E, ι, dx, dy, d, st, R, rx, ry, rd, h⟩
  obtain ⟨r, a, l, xs, rfl, hi, ho, hH, hr, h2⟩ := own1_ok R rx h
  cases ry with
  | int k =>
    unfold atN at h2
    simp only at h2
    cases hj : ixN l.length k with
    | none => rw [hj] at h2; exact h2.elim
    | some j =>
      rw [hj] at h2
      obtain ⟨k1, k2⟩ := put_ok R hi ho (RVs.set rd j hr)
      exact set_list pins s σ H _ _ _ ov iv u Q I ro ri rv ⟨a, xs, k, j, rfl, rfl, hH, by rw [← hr.length]; exact hj, h2 () _ _ k1 k2 trivial⟩
  | _ => exact h2.elim
def bMax2 : List D → S → R D
  | [.int i, .int j], s => .ok (.int (if j > i then j else i)) s
  | _, _ => .no
def bMin2 : List D → S → R D
  | [.int i, .int j], s => .ok (.int (if j < i then j else i)) s
  | _, _ => .no
theorem c_max2 (A : At X g W) : CallR X (.builtin "max") (rc g bMax2) := by
  intro pins s σ H xs us Q I r ⟨E, ι, ds, st, R, rv, q⟩
  unfold bMax2 at q
  split at q
  · cases rv with
    | cons r1 r2 =>
      cases r2 with
      | cons r2 r3 => cases r3; cases r1; cases r2; exact call_max2 A.calm pins s σ H _ us Q I r ⟨_, _, rfl, tR.of q R (.int _)⟩
  · exact q.elim
theorem c_min2 (A : At X g W) : CallR X (.builtin "min") (rc g bMin2) := by
  intro pins s σ H xs us Q I r ⟨E, ι, ds, st, R, rv, q⟩
  unfold bMin2 at q
  split at q
  · cases rv with
    | cons r1 r2 =>
      cases r2 with
      | cons r2 r3 => cases r3; cases r1; cases r2; exact call_min2 A.calm pins s σ H _ us Q I r ⟨_, _, rfl, tR.of q R (.int _)⟩
  · exact q.elim
end
end EV
namespace EVG
open L2 PySem PySem.Spec PyProof.Rows
section
variable {X : Cx} {pins : List (Addr × Obj)} {σ : L2.St} {H : Hp} {s : Shared}
/-- a value's truth, with nothing but tokens drawn -/
theorem truth_at {x : V} {v : Value} {k : Bool} {A : Around} {E : Value → Shared → Prop} {Q : Bool → Shared → Prop} (I0 : Inv X pins σ H s) (rv : RelV x v) (tv : TruV X.K x H k) (hq : ∀ t, Q k { s with toks := t }) : wpAny (model X.prog X.w) A (truthy v) Q E s := by
  have small : (sizeLine : Nat) < 2 ^ 39 := by rw [sizeLine_eq]; decide
  have now : Q k s := hq s.toks
  cases x with
  | non => cases rv; cases (show k = false from tv); exact truthy_none now
  | bl b => cases rv; cases (show k = b from tv); exact wpAny_truthy_bool now
  | int i => obtain ⟨t, rfl⟩ := rv; cases (show k = (i != 0) from tv); exact PySem.P.truthy_int now
  | ref p =>
    cases rv
    rcases (show (∃ xs, SqL X.K H p xs ∧ k = !xs.isEmpty) ∨ (∃ xs, SqT X.K H p xs ∧ k = !xs.isEmpty) ∨ ∃ kvs, H p = some (.dK kvs) ∧ k = !kvs.isEmpty from tv) with ⟨xs, sq, ek⟩ | ⟨xs, sq, ek⟩ | ⟨kvs, hd, ek⟩
    · obtain ⟨items, rl, at_, sz⟩ := I0.list sq
      have ln := rl.length
      refine wpAny_truthy_list at_.isList (by simp only [List.size_toArray]; omega) ?_
      rw [isEmpty_of rl, ← ek]; exact hq _
    · obtain ⟨items, rl, at_, sz⟩ := I0.tuple sq
      have ln := rl.length
      refine truthy_tuple at_ (by simp only [List.size_toArray]; omega) ?_
      rw [isEmpty_of rl, ← ek]; exact hq _
    · obtain ⟨sz, nm, vs, rl, dm⟩ : kvs.length ≤ sizeLine ∧ (p == sysModules) = false ∧ ∃ vs, KV kvs vs ∧ s.heap.DictOf (mixKind X.prog X.w) p vs := I0.hok p _ hd
      have ln : kvs.length = vs.length := Paired.length rl
      refine wpAny_truthy_dict nm dm (by omega) ?_
      rw [isEmpty_kv rl, ← ek]; exact hq _
  | str y =>
    obtain ⟨t, rfl⟩ := rv
    obtain ⟨sz, ek⟩ : y.length ≤ sizeLine ∧ k = ((y.length : Int) != 0) := tv
    subst ek
    exact PySem.P.truthy_str (by omega) (hq _)
  | byt y =>
    obtain ⟨t, rfl⟩ := rv
    obtain ⟨sz, ek⟩ : y.size ≤ sizeLine ∧ k = ((y.size : Int) != 0) := tv
    subst ek
    exact PySem.W.truthy_bytes (by omega) (hq _)
  | _ => exact (show False from tv).elim
/-- other generators, other tokens -/
theorem inv_gens {G : Array GenState} {t : Nat} {d : Drawn} (I0 : Inv X pins σ H s) (hG : AllBare G) : Inv X pins σ H { s with gens := G, toks := t, drawn := d } :=
  ⟨I0.ok, I0.os, hG, I0.base, I0.loc, I0.cell, I0.free, I0.freeC, I0.pin, I0.hok, I0.len⟩
/-- the context of a generator expression's frame, begun at s -/
abbrev genX (X : Cx) (A' : Around) (s : Shared) (H : Hp) (scope : Scope) (cenv : Env) (fp : List Addr) : Cx :=
  { X with A := A', s_0 := s, H_0 := H, env := cenv, outer := X.stack, stack := cenv :: X.stack, ex := fp, fn := fun x => scope.names.lookup x == some .cell, pn := [], xe := fun _ _ => False }
/-- .. and its first state -/
theorem gen_start {scope : Scope} {own : List (Str × Nat)} {fp : List Addr} {A' : Around} {code : Value} {s5 : Shared} {m : Str → Option Value} (I0 : Inv X pins σ H s) (ok : BlkOk X.N X.env.scope scope own) (nc : ∀ y ∈ scope.names, y.2 ≠ .cell) (hN : X.N.Nodup) (hfp : ∀ b ∈ fp, FpOk X pins H b ∧ b < s.heap.objs.size)
    (hA : A'.handled = none) (hfr : A'.frames = some (genEnv scope (cloFrom X.env.cells scope.names []) s.heap.objs.size code builtinsNs X.env :: X.stack)) (kp : ∀ b o, s.heap.get? b = some o → s5.heap.get? b = some o) (hn : s5.heap.Ns s.heap.objs.size m) (hos : s5.os = s.os) (hb : AllBare s5.gens) :
    Inv (genX X A' s H scope (genEnv scope (cloFrom X.env.cells scope.names []) s.heap.objs.size code builtinsNs X.env) fp) [] (wipe σ (own.map (·.2))) H s5 := by
  have has0 : ∀ y ∈ scope.names, y.2 = .free → ∃ c, X.env.cells.lookup y.1 = some c := fun y hy e => (ok.free y hy e).elim (fun k => I0.ok.has _ (.inl k)) fun k => I0.ok.has _ (.inr k)
  have clo : ∀ {y c}, (cloFrom X.env.cells scope.names []).lookup y = some c → X.env.cells.lookup y = some c ∧ c < s.heap.objs.size := fun {y c} e => by
    rcases cloFrom_mem (PySem.mem_of_lookup e) with hm | ⟨h1, h2⟩
    · cases hm
    · obtain ⟨c', hc⟩ := has0 _ h1 rfl
      have hc1 : X.env.cells.lookup y = some c' := hc
      rw [hc1] at h2
      have h3 : c = c' := h2
      subst h3
      obtain ⟨v, z⟩ := I0.cell _ _ hc1
      exact ⟨hc1, z.lt⟩
  have look : ∀ {y}, scope.names.lookup y = some .free → ∃ c, (cloFrom X.env.cells scope.names []).lookup y = some c ∧ X.env.cells.lookup y = some c := fun {y} hl => by
    have hm : (y, NameKind.free) ∈ scope.names := PySem.mem_of_lookup hl
    obtain ⟨c', e'⟩ := mem_lookup (cloFrom_has (cells := X.env.cells) (acc := []) hm)
    exact ⟨c', e', (clo e').1⟩
  have nocell : ∀ {y}, scope.names.lookup y ≠ some .cell := fun {y} e => nc _ (PySem.mem_of_lookup e) rfl
  have okY : (genX X A' s H scope (genEnv scope (cloFrom X.env.cells scope.names []) s.heap.objs.size code builtinsNs X.env) fp).Ok := by
    constructor
    · exact I0.ok.mod
    · exact ok.kind
    · exact I0.ok.glob
    · rfl
    · exact Nat.le_refl _
    · intro y z c e1 e2; exact I0.ok.inj y z c (clo e1).1 (clo e2).1
    · intro y hy
      rcases hy with hy | hy
      · exact absurd hy nocell
      · obtain ⟨c, h1, _⟩ := look hy; exact ⟨c, h1⟩
    · intro y c z e
      have z' : (scope.names.lookup y == some NameKind.cell) = true := z
      exact absurd (show scope.names.lookup y = some .cell by simpa using z') nocell
    · exact fun _ => hA
    · exact hfr
    · exact .inr ⟨rfl, rfl⟩
    · intro b hb'
      refine ⟨Nat.ne_of_lt (hfp b hb').2, fun y c e z => ?_⟩
      exact (hfp b hb').1.2.2.2.2.1 y c (clo e).1 z
    · exact I0.bs
    · exact Nat.le_trans I0.ok.bsz I0.sz
    · intro b o e hb'
      rcases (hfp b hb').1.2.2.2.1 with z | z
      · exact I0.ok.noex b o e z
      · exact absurd (Nat.lt_of_lt_of_le (Heap.lt_size e) (Nat.le_trans I0.ok.bsz z)) (Nat.lt_irrefl b)
    · intro b hb' z
      rcases List.mem_cons.mp (I0.stkSub b z) with z | z
      · exact (hfp b hb').1.2.1 z
      · exact (hfp b hb').1.2.2.1 z
    · exact I0.stack
    · exact I0.stkFree
  refine ⟨okY, hos, hb, Un.kept kp, ⟨m, hn, fun i y a e1 e2 e3 => ?_⟩, fun y c e => ?_, I0.hok.fresh (Nat.le_refl _), fun y c e => I0.freeC y c (clo e).1, fun p hp => absurd (show p ∈ ([] : List (Addr × Obj)) ++ [] from hp) (by simp), I0.hok.kept kp, by rw [wipe_length]; exact I0.len⟩
  · obtain ⟨e2, nw⟩ := wipe_some e2
    have mine : ∀ k, scope.names.lookup y = some k → (k = .local ∨ k = .cell) → False := fun k hk hk' => by
      rcases ok.own _ (PySem.mem_of_lookup hk) (by rcases hk' with z | z <;> simp [z]) with z | z
      · obtain ⟨p, hp, hpy⟩ := List.mem_map.mp z
        have e3 := ok.ix p hp
        have q : p.1 = y := hpy
        rw [q] at e3
        exact nw (List.mem_map.mpr ⟨p, hp, nodup_ix hN e3 e1⟩)
      · exact z (List.mem_of_getElem? e1)
    have fr : scope.names.lookup y = some .free := by
      rcases (show Vis scope y from e3) with z | z | z
      · exact (mine _ z (.inl rfl)).elim
      · exact (mine _ z (.inr rfl)).elim
      · exact z
    obtain ⟨m0, hn0, hl⟩ := I0.loc
    have vis : Vis X.env.scope y := (ok.free _ (PySem.mem_of_lookup fr) rfl).elim (fun k => .inr (.inl k)) fun k => .inr (.inr k)
    obtain ⟨u, r, q⟩ := hl i y a e1 e2 vis
    refine ⟨u, r, .inr ⟨.inr fr, ?_⟩⟩
    obtain ⟨c, h1, h2⟩ := look fr
    rcases q with ⟨k, _⟩ | ⟨_, c', e', z⟩
    · have k : X.env.scope.names.lookup y = some .local := k
      rcases ok.free _ (PySem.mem_of_lookup fr) rfl with k' | k' <;> (rw [show X.env.scope.names.lookup y = _ from k'] at k; cases k)
    · rw [h2] at e'; cases e'
      exact ⟨c, h1, z.keeps kp⟩
  · obtain ⟨v, z⟩ := I0.cell y c (clo e).1
    exact ⟨v, z.keeps kp⟩
/-- what lies between two wakings -/
structure Same (s s' : Shared) : Prop where
  heap : s'.heap = s.heap
  os : s'.os = s.os
  bare : AllBare s'.gens
/-- an item is handed out, its truth is that which goes on; or it ends the question -/
def GXY (Y : Cx) (a : Addr) (ob : Obj) (b0 : Bool) (Q : Bool → Hp → Prop) : Protocol := fun _ _ v s1 kap =>
  ∃ pins σ H x k, (a, ob) ∈ pins ∧ Inv Y pins σ H s1 ∧ RelV x v ∧ TruV Y.K x H k ∧ (k = b0 → ∀ s2, Same s1 s2 → kap (.send .none) s2) ∧ (k ≠ b0 → Q (!b0) H)
def GXR (Y : Cx) (b0 : Bool) (Q : Bool → Hp → Prop) : Nat → Shared → Shared → Prop := fun _ _ s1 => ∃ pins σ H, Inv Y pins σ H s1 ∧ Q b0 H
/-- the turns; W by the turn, a measure and the heap -/
def GXW (J : It) (g : TG) (tt : TT) (te : TE) (K : PySem.W.Frag) (vs : List Nat) (σ0 : L2.St) (b0 : Bool) (Q : Bool → Hp → Prop) (W : Nat → Nat → Hp → Prop) : Prop := ∀ i m H, W i m H →
  (J.stop i H ∧ Q b0 H) ∨ (J.go i H ∧ ∃ Nx : Hp → Prop, (∀ H', Nx H' → ∃ m', m' < m ∧ W (i + 1) m' H') ∧ ∀ x H', J.yld i H x H' → g x (wipe σ0 vs) H' fun σ2 H2 => wipe σ2 vs = wipe σ0 vs ∧ tt σ2 H2 fun b H3 =>
    if b = true then te σ2 H3 fun y H4 => ∃ k, TruV K y H4 k ∧ (if k = b0 then Nx H4 else Q (!b0) H4) else Nx H3)
theorem gx_bind {M : Model} {A : Around} {R : GenEnd} {Y : Protocol} {n : Nat} {s₀ : Shared} {c : Code} {fs : List Frame} {s : Shared} {α β : Type} {m : Sem α} {K : α → Sem β} {K' : β → Sem Fin} {H' : Value → Sem Fin} {gd lv} {Q : α → Shared → Prop}
    (h : wpAny M (A.over c fs) m Q (fun _ _ => False) s) (k : ∀ a s', Q a s' → Seg M A R Y n s₀ c ((K a).wrap K' H' gd lv) fs s') : Seg M A R Y n s₀ c ((m >>= K).wrap K' H' gd lv) fs s :=
  seg_bind_wrap (wpAny_mono h k fun _ _ z => z.elim)
section
variable {Y : Cx} {A2 : Around} {elt tg iter : Expr} {ifs : List Expr} {scope : Scope} {gpos : Pos} {it a : Addr} {ob : Obj} {fp : List Addr} {tn : Nat → Heap → Prop} {J : It} {g : TG} {tt : TT} {te : TE} {vs : List Nat} {σ0 : L2.St} {b0 : Bool} {Q : Bool → Hp → Prop} {W : Nat → Nat → Hp → Prop}
theorem gx_loop (hA : A2.over (.compLoop (.GeneratorExp elt [⟨tg, iter, ifs, 0⟩] scope gpos) 0 (.ref it) .none Y.env) [] = Y.A) (hc : Y.calm = true) (hxe : Y.xe = fun _ _ => False) (hpn : Y.pn = []) (hex : Y.ex = fp) (hco : Y.env.scope.isCoroutine = false)
    (T : Turn Y.prog Y.w Y.K tg J fp it tn) (pg : PG Y tg g) (pt : PTs Y ifs tt) (pe : PE Y elt te) (hob : ∀ v, ob.data ≠ .cell v) (hafp : a ∉ fp) (turn : GXW J g tt te Y.K vs σ0 b0 Q W) :
    ∀ (m n i : Nat) (s₀ s : Shared) (H : Hp), m < n → Inv Y [(a, ob)] (wipe σ0 vs) H s → tn i s.heap → (∀ b ∈ fp, H b = none) → W i m H →
      Seg (model Y.prog Y.w) A2 (fun n s₀ r s₁ => r = .ok .next ∧ GXR Y b0 Q n s₀ s₁) (GXY Y a ob b0 Q) n s₀ (.compLoop (.GeneratorExp elt [⟨tg, iter, ifs, 0⟩] scope gpos) 0 (.ref it) .none Y.env)
        ((model Y.prog Y.w).den (.compLoop (.GeneratorExp elt [⟨tg, iter, ifs, 0⟩] scope gpos) 0 (.ref it) .none Y.env)) [] s := by
  intro m
  induction m using Nat.strongRecOn with
  | ind m ih =>
    intro n i s₀ s H hmn I0 st nf w0
    have stat : ∀ {pl : List (Addr × Obj)} {σ' : L2.St} {H' : Hp} {s' : Shared}, Inv Y pl σ' H' s' → (∀ p ∈ pl, p.1 ∉ fp) → (∀ b ∈ fp, H' b = none) → ∀ b ∈ fp, FpOk Y pl H' b := fun {pl σ' H' s'} I' hp hn b hb => by
      have hb' : b ∈ Y.ex := by rw [hex]; exact hb
      refine ⟨hn b hb, (I'.ok.exf b hb').1, I'.ok.exfs b hb', .inl hb', fun x c e => (I'.ok.exf b hb').2 x c e, fun p hq z => ?_⟩
      rw [hpn] at hq
      exact hp p hq (z ▸ hb)
    have one : ∀ p ∈ [(a, ob)], p.1 ∉ fp := fun p hp => by rw [List.mem_singleton.mp hp]; exact hafp
    show Seg _ A2 _ _ _ s₀ _ ((compTurn (.GeneratorExp elt [⟨tg, iter, ifs, 0⟩] scope gpos) 0 (.ref it) .none Y.env).onRaise (leaving Y.env)) [] s
    rw [compTurn_gen, Sem.onRaise_eq_wrap]
    refine seg_bind_wrap (wpAny_standAt ?_)
    rcases turn i m H w0 with ⟨stop, q⟩ | ⟨go, Nx, hNx, step⟩
    · have h0 := T.done Y rfl rfl rfl hc i _ s _ H (fun _ _ => False) I0 (stat I0 one nf) st stop
      rw [← hA] at h0
      refine gx_bind h0 fun r s1 ⟨hr, I1⟩ => ?_
      subst hr
      exact seg_end (.ok .next) ⟨rfl, _, _, _, I1, q⟩
    · have h0 := T.item Y rfl rfl rfl hc i _ s _ H (fun _ _ => False) I0 (stat I0 one nf) st go
      rw [← hA] at h0
      refine gx_bind h0 fun r s1 ⟨u, hr, h1⟩ => ?_
      subst hr
      refine gx_bind h1 fun _ s2 ⟨x, H2, I2, r2, y2, st2, n2⟩ => ?_
      have I2' := I2.pinned (stat I2 one n2) (T.obj _ _ st2)
      have h3 := pg.run _ s2 _ H2 x u _ I2' r2 (step x H2 y2)
      rw [hxe, ← hA] at h3
      refine gx_bind h3 fun _ s3 ⟨σ3, H3, I3, hw3, q3⟩ => ?_
      have h4 := pt.run _ s3 σ3 H3 _ I3 q3
      rw [hxe, ← hA] at h4
      refine gx_bind h4 fun b s4 ⟨H4, I4, q4⟩ => ?_
      -- the next turn
      have next : ∀ {s' : Shared} {H' : Hp} {n' : Nat} (z₀ : Shared), Inv Y ([(a, ob)] ++ pinsAt fp s2.heap) σ3 H' s' → Nx H' → m ≤ n' →
          Seg (model Y.prog Y.w) A2 (fun n s₀ r s₁ => r = .ok .next ∧ GXR Y b0 Q n s₀ s₁) (GXY Y a ob b0 Q) n' z₀ (.compLoop (.GeneratorExp elt [⟨tg, iter, ifs, 0⟩] scope gpos) 0 (.ref it) .none Y.env)
            ((model Y.prog Y.w).den (.compLoop (.GeneratorExp elt [⟨tg, iter, ifs, 0⟩] scope gpos) 0 (.ref it) .none Y.env)) [] s' := fun {s' H' n'} z₀ I' nx hmn' => by
        obtain ⟨m', hm, w'⟩ := hNx H' nx
        have pin' : ∀ b ∈ fp, ∀ o, s2.heap.get? b = some o → s'.heap.get? b = some o ∧ H' b = none := fun b hb o e =>
          have z := I'.pin (b, o) (List.mem_append_right _ (List.mem_append_right _ (mem_pinsAt hb e)))
          ⟨z.1, z.2.1⟩
        have hl : (wipe σ0 vs).length = σ3.length := by rw [← hw3, wipe_length]
        refine ih m' hm n' (i + 1) z₀ s' H' (by omega) ((I'.unpinned (pins := [(a, ob)])).weak hl fun j v e => ?_) (T.keep _ _ _ st2 fun b hb o e => (pin' b hb o e).1) (fun b hb => ?_) w'
        · rw [← hw3] at e
          exact (wipe_some e).1
        · obtain ⟨o, e, _⟩ := T.obj _ _ st2 b hb
          exact (pin' b hb o e).2
      cases b with
      | false =>
        simp only [Bool.false_eq_true, if_false] at q4 ⊢
        exact seg_again rfl (next s₀ I4 q4 (by omega))
      | true =>
        simp only [if_true] at q4 ⊢
        have hy : ∀ v, yieldOut Y.env v = yieldValue v := fun v => by simp only [yieldOut, hco, Bool.false_eq_true, if_false]
        simp only [hy]
        rw [Sem.bind_eq_wrap', Sem.bind_eq_wrap', Sem.wrap_wrap, Sem.wrap_wrap]
        have h5 := pe.run _ s4 σ3 H4 _ I4 q4
        rw [hxe, ← hA] at h5
        refine seg_wrap (wpAny_mono h5 (fun v s5 ⟨yv, H5, I5, r5, k, tk, q5⟩ => ?_) fun _ _ z => z.elim)
        obtain ⟨n1, rfl⟩ : ∃ n1, n = n1 + 1 := ⟨n - 1, by omega⟩
        refine seg_at (seg_yield rfl rfl rfl ⟨_, σ3, H5, yv, k, List.mem_append_left _ (List.mem_singleton.mpr rfl), I5, r5, tk, fun hk s6 hs => ?_, fun hk => ?_⟩)
        · rw [if_pos hk] at q5
          obtain ⟨hp, gg, dd, tt6, oo⟩ := s6
          obtain ⟨e1, e2, e3⟩ := hs
          dsimp only at e1 e2 e3
          subst e1 e2
          exact seg_again rfl (next _ (inv_gens I5 e3) q5 (by omega))
        · rw [if_neg hk] at q5
          exact q5
theorem gx_start (hA : A2.over (.compLoop (.GeneratorExp elt [⟨tg, iter, ifs, 0⟩] scope gpos) 0 (.ref it) .none Y.env) [] = Y.A) (hc : Y.calm = true) (hxe : Y.xe = fun _ _ => False) (hpn : Y.pn = []) (hex : Y.ex = fp) (hco : Y.env.scope.isCoroutine = false)
    (T : Turn Y.prog Y.w Y.K tg J fp it tn) (pg : PG Y tg g) (pt : PTs Y ifs tt) (pe : PE Y elt te) (hob : ∀ v, ob.data ≠ .cell v) (hafp : a ∉ fp) (turn : GXW J g tt te Y.K vs σ0 b0 Q W)
    {m : Nat} {s : Shared} {H : Hp} (I0 : Inv Y [(a, ob)] (wipe σ0 vs) H s) (st : tn 0 s.heap) (nf : ∀ b ∈ fp, H b = none) (w0 : W 0 m H) :
    Seg (model Y.prog Y.w) A2 (fun n s₀ r s₁ => r = .ok .next ∧ GXR Y b0 Q n s₀ s₁) (GXY Y a ob b0 Q) (m + 1) s (.compStart (.GeneratorExp elt [⟨tg, iter, ifs, 0⟩] scope gpos) 0 (.ref it) .none Y.env)
      ((model Y.prog Y.w).den (.compStart (.GeneratorExp elt [⟨tg, iter, ifs, 0⟩] scope gpos) 0 (.ref it) .none Y.env)) [] s := by
  have loop := gx_loop hA hc hxe hpn hex hco T pg pt pe hob hafp turn m (m + 1) 0 s s H (Nat.lt_succ_self m) I0 st nf w0
  show Seg _ A2 _ _ _ s _ ((compStart (.GeneratorExp elt [⟨tg, iter, ifs, 0⟩] scope gpos) 0 (.ref it) .none Y.env).onRaise (leaving Y.env)) [] s
  unfold compStart
  rw [Sem.onRaise_eq_wrap]
  refine seg_bind_wrap (m := ask) (wpAny_askSetting ?_)
  split
  · exact seg_again rfl loop
  · refine seg_bind_wrap (wpAny_rule ?_)
    refine seg_bind_wrap (m := standAt iter.pos) (wpAny_standAt (seg_bind_wrap (T.self _ 0 _ _ _ st ?_)))
    exact seg_again rfl loop
end
section
variable {Y : Cx} {A : Around} {a : Addr} {ob : Obj} {g : Nat} {Q : Bool → Hp → Prop} {R' : Result → Shared → Prop}
/-- the generator stands ready -/
def GXA (Y : Cx) (A : Around) (a : Addr) (ob : Obj) (b0 : Bool) (Q : Bool → Hp → Prop) (g n : Nat) (s : Shared) : Prop :=
  s.heap.NoLimit ∧ ∃ gs, s.gens[g]? = some gs ∧ gs.Goes (model Y.prog Y.w) A (fun n s₀ r s₁ => r = .ok .next ∧ GXR Y b0 Q n s₀ s₁) (GXY Y a ob b0 Q) n (.send .none) (s.setGen g .running)
theorem gx_all (hh : A.handled = none) (hd : A.depth < recursionLimit) (hob : ∃ nm qn, ob.cls = .type "generator" ∧ ob.data = .fields #[.int g 0, nm, qn] ∧ ob.slots = #[]) (hend : ∀ s' pins σ H b, Inv Y pins σ H s' → Q b H → R' (.ok (.ret (.bool b))) s') : ∀ (n : Nat) (s : Shared), s.heap.get? a = some ob → GXA Y A.in1.in1 a ob true Q g n s →
    codeAny (model Y.prog Y.w) A (.builtin "all.loop" ⟨[.ref a], []⟩) R' s := by
  intro n
  induction n with
  | zero =>
    intro s hob1 ⟨hl, gs, hgs, hgo⟩
    obtain ⟨nm, qn, o1, o2, o3⟩ := hob
    refine codeAny_builtin F.entry_all_loop ?_
    rw [Around.under_plainId F.plain_all_loop _]
    refine wpAny_bind (m := pyNext (.ref a)) (A := A.in1) (wpAny_pyNext_genexpQ (A := A.in1) hh hl hd ⟨ob, nm, qn, hob1, o1, o2, o3⟩ hgs hgo (fun v s1 gs1 hb1 hy => ?_) fun s1 hp h' hk => ?_)
    · obtain ⟨pins, σ, H, x, k, hm, I1, rv, tk, hk1, hk2⟩ := hy
      have I2 : Inv Y pins σ H (s1.setGen g gs1) := inv_gens (t := s1.toks) (d := s1.drawn) I1 (allBare_setGen I1.bare hb1)
      refine wpAny_bind (wpAny_holding (truth_at I2 rv tk fun t => ?_))
      refine wpAny_bind (wpAny_letGo ?_)
      by_cases hk : k = true
      · exact (hk1 hk s1 ⟨rfl, rfl, I1.bare⟩).elim
      · have ek : k = false := by cases k <;> first | rfl | exact absurd rfl hk
        subst ek
        simp only [Bool.false_eq_true, if_false]
        refine wpAny_bind (wpAny_rule (wpAny_pure ?_))
        exact hend _ pins σ H false (I2.tok t) (hk2 hk)
    · obtain ⟨pins, σ, H, I1, q1⟩ := hp
      refine wpAny_bind (wpAny_rule (wpAny_pure ?_))
      exact hend _ pins σ H true (Inv.kept (t' := s1.toks) (inv_gens (t := s1.toks) (d := s1.drawn) I1 (allBare_setGen I1.bare rfl)) hk) q1
  | succ n ih =>
    intro s hob1 ⟨hl, gs, hgs, hgo⟩
    have hgl : g < s.gens.size := (Array.getElem?_eq_some_iff.mp hgs).1
    obtain ⟨nm, qn, o1, o2, o3⟩ := hob
    refine codeAny_builtin F.entry_all_loop ?_
    rw [Around.under_plainId F.plain_all_loop _]
    refine wpAny_bind (m := pyNext (.ref a)) (A := A.in1) (GenW.wpAny_gsz (n := g + 1) hgl (wpAny_pyNext_genexpQ (A := A.in1) hh hl hd ⟨ob, nm, qn, hob1, o1, o2, o3⟩ hgs hgo (fun v s1 gs1 hb1 hy => ?_) fun s1 hp h' hk => ?_))
    · intro hsz
      obtain ⟨pins, σ, H, x, k, hm, I1, rv, tk, hk1, hk2⟩ := hy
      have I2 : Inv Y pins σ H (s1.setGen g gs1) := inv_gens (t := s1.toks) (d := s1.drawn) I1 (allBare_setGen I1.bare hb1)
      refine wpAny_bind (wpAny_holding (truth_at I2 rv tk fun t => ?_))
      refine wpAny_bind (wpAny_letGo ?_)
      have at1 : s1.heap.get? a = some ob := (I1.pin (a, ob) (List.mem_append_right _ hm)).1
      by_cases hk : k = true
      · subst hk
        have hz : g < s1.gens.size := by
          have q : (s1.setGen g gs1).gens.size = s1.gens.size := GenW.setGen_size s1 g gs1
          have q2 : g + 1 ≤ (s1.setGen g gs1).gens.size := hsz
          omega
        have go := hk1 rfl (({ s1.setGen g gs1 with toks := t } : Shared).setGen g .running) ⟨rfl, rfl, allBare_setGen (s := { s1.setGen g gs1 with toks := t }) (allBare_setGen I1.bare hb1) rfl⟩
        simp only [if_true, Bool.false_eq_true, if_false]
        refine wpAny_pure ⟨plainId_quiet F.plain_all_loop _, ih { s1.setGen g gs1 with toks := t } at1 ⟨I2.nolimit, gs1, setGen_at hz, go⟩⟩
      · have ek : k = false := by cases k <;> first | rfl | exact absurd rfl hk
        subst ek
        simp only [Bool.false_eq_true, if_false]
        refine wpAny_bind (wpAny_rule (wpAny_pure ?_))
        exact hend _ pins σ H false (I2.tok t) (hk2 hk)
    · intro hsz
      obtain ⟨pins, σ, H, I1, q1⟩ := hp
      refine wpAny_bind (wpAny_rule (wpAny_pure ?_))
      exact hend _ pins σ H true (Inv.kept (t' := s1.toks) (inv_gens (t := s1.toks) (d := s1.drawn) I1 (allBare_setGen I1.bare rfl)) hk) q1
theorem gx_any (hh : A.handled = none) (hd : A.depth < recursionLimit) (hob : ∃ nm qn, ob.cls = .type "generator" ∧ ob.data = .fields #[.int g 0, nm, qn] ∧ ob.slots = #[]) (hend : ∀ s' pins σ H b, Inv Y pins σ H s' → Q b H → R' (.ok (.ret (.bool b))) s') : ∀ (n : Nat) (s : Shared), s.heap.get? a = some ob → GXA Y A.in1.in1 a ob false Q g n s →
    codeAny (model Y.prog Y.w) A (.builtin "any.loop" ⟨[.ref a], []⟩) R' s := by
  intro n
  induction n with
  | zero =>
    intro s hob1 ⟨hl, gs, hgs, hgo⟩
    obtain ⟨nm, qn, o1, o2, o3⟩ := hob
    refine codeAny_builtin F.entry_any_loop ?_
    rw [Around.under_plainId F.plain_any_loop _]
    refine wpAny_bind (m := pyNext (.ref a)) (A := A.in1) (wpAny_pyNext_genexpQ (A := A.in1) hh hl hd ⟨ob, nm, qn, hob1, o1, o2, o3⟩ hgs hgo (fun v s1 gs1 hb1 hy => ?_) fun s1 hp h' hk => ?_)
    · obtain ⟨pins, σ, H, x, k, hm, I1, rv, tk, hk1, hk2⟩ := hy
      have I2 : Inv Y pins σ H (s1.setGen g gs1) := inv_gens (t := s1.toks) (d := s1.drawn) I1 (allBare_setGen I1.bare hb1)
      refine wpAny_bind (wpAny_holding (truth_at I2 rv tk fun t => ?_))
      refine wpAny_bind (wpAny_letGo ?_)
      by_cases hk : k = false
      · exact (hk1 hk s1 ⟨rfl, rfl, I1.bare⟩).elim
      · have ek : k = true := by cases k <;> first | rfl | exact absurd rfl hk
        subst ek
        simp only [if_true]
        refine wpAny_bind (wpAny_rule (wpAny_pure ?_))
        exact hend _ pins σ H true (I2.tok t) (hk2 hk)
    · obtain ⟨pins, σ, H, I1, q1⟩ := hp
      refine wpAny_bind (wpAny_rule (wpAny_pure ?_))
      exact hend _ pins σ H false (Inv.kept (t' := s1.toks) (inv_gens (t := s1.toks) (d := s1.drawn) I1 (allBare_setGen I1.bare rfl)) hk) q1
  | succ n ih =>
    intro s hob1 ⟨hl, gs, hgs, hgo⟩
    have hgl : g < s.gens.size := (Array.getElem?_eq_some_iff.mp hgs).1
    obtain ⟨nm, qn, o1, o2, o3⟩ := hob
    refine codeAny_builtin F.entry_any_loop ?_
    rw [Around.under_plainId F.plain_any_loop _]
    refine wpAny_bind (m := pyNext (.ref a)) (A := A.in1) (GenW.wpAny_gsz (n := g + 1) hgl (wpAny_pyNext_genexpQ (A := A.in1) hh hl hd ⟨ob, nm, qn, hob1, o1, o2, o3⟩ hgs hgo (fun v s1 gs1 hb1 hy => ?_) fun s1 hp h' hk => ?_))
    · intro hsz
      obtain ⟨pins, σ, H, x, k, hm, I1, rv, tk, hk1, hk2⟩ := hy
      have I2 : Inv Y pins σ H (s1.setGen g gs1) := inv_gens (t := s1.toks) (d := s1.drawn) I1 (allBare_setGen I1.bare hb1)
      refine wpAny_bind (wpAny_holding (truth_at I2 rv tk fun t => ?_))
      refine wpAny_bind (wpAny_letGo ?_)
      have at1 : s1.heap.get? a = some ob := (I1.pin (a, ob) (List.mem_append_right _ hm)).1
      by_cases hk : k = false
      · subst hk
        have hz : g < s1.gens.size := by
          have q : (s1.setGen g gs1).gens.size = s1.gens.size := GenW.setGen_size s1 g gs1
          have q2 : g + 1 ≤ (s1.setGen g gs1).gens.size := hsz
          omega
        have go := hk1 rfl (({ s1.setGen g gs1 with toks := t } : Shared).setGen g .running) ⟨rfl, rfl, allBare_setGen (s := { s1.setGen g gs1 with toks := t }) (allBare_setGen I1.bare hb1) rfl⟩
        simp only [if_true, Bool.false_eq_true, if_false]
        refine wpAny_pure ⟨plainId_quiet F.plain_any_loop _, ih { s1.setGen g gs1 with toks := t } at1 ⟨I2.nolimit, gs1, setGen_at hz, go⟩⟩
      · have ek : k = true := by cases k <;> first | rfl | exact absurd rfl hk
        subst ek
        simp only [if_true]
        refine wpAny_bind (wpAny_rule (wpAny_pure ?_))
        exact hend _ pins σ H true (I2.tok t) (hk2 hk)
    · intro hsz
      obtain ⟨pins, σ, H, I1, q1⟩ := hp
      refine wpAny_bind (wpAny_rule (wpAny_pure ?_))
      exact hend _ pins σ H false (Inv.kept (t' := s1.toks) (inv_gens (t := s1.toks) (d := s1.drawn) I1 (allBare_setGen I1.bare rfl)) hk) q1
end
end
section
variable {X : Cx} {pins : List (Addr × Obj)} {σ : L2.St} {H : Hp} {s : Shared} {elt tg iter : Expr} {ifs : List Expr} {scope : Scope} {own : List (Str × Nat)} {gpos : Pos} {c P : Addr} {wi : TI} {R : It → Hp → Prop}
/-- a generator that has not begun stands at a, over s4 -/
structure Fresh (X : Cx) (pins : List (Addr × Obj)) (σ : L2.St) (elt tg iter : Expr) (ifs : List Expr) (scope : Scope) (gpos : Pos) (J : It) (H2 : Hp) (a : Addr) (s5 : Shared) : Prop where
  ex : ∃ (s4 : Shared) (it : Addr) (fp : List Addr) (tn : Nat → Heap → Prop) (code : Value) (gi : Nat) (ob : Obj) (m : Str → Option Value), Inv X pins σ H2 s4 ∧ Turn X.prog X.w X.K tg J fp it tn ∧ tn 0 s5.heap ∧ (∀ b ∈ fp, FpOk X pins H2 b ∧ b < s4.heap.objs.size) ∧
    (∀ b o, s4.heap.get? b = some o → s5.heap.get? b = some o) ∧ s5.heap.Ns s4.heap.objs.size m ∧ s5.os = s4.os ∧ AllBare s5.gens ∧ s5.heap.get? a = some ob ∧ s4.heap.objs.size < a ∧ (∃ nm qn, ob.cls = .type "generator" ∧ ob.data = .fields #[.int gi 0, nm, qn] ∧ ob.slots = #[]) ∧
    s5.gens[gi]? = some (.fresh (.compStart (.GeneratorExp elt [⟨tg, iter, ifs, 0⟩] scope gpos) 0 (.ref it) .none (genEnv scope (cloFrom X.env.cells scope.names []) s4.heap.objs.size code builtinsNs X.env))) ∧ s5.heap.NoLimit
theorem gen_make {k : Nat} {Q' : Value → Shared → Prop} (hr : Room k X.A) (TB : GxR.TabB X.base X.mg c P) (hcode : X.env.code = .ref c) (ok : BlkOk X.N X.env.scope scope own) (nc : ∀ y ∈ scope.names, y.2 ≠ .cell) (co : scope.isCoroutine = false) (dot : scope.names.lookup (".0" : Str) = some NameKind.local)
    (hi : PI X tg iter wi) (hs : ∀ v, genFold iter X.env v = pure v) (I0 : Inv X pins σ H s) (h : wi σ H fun J H1 => GxR.TabG H1 P ∧ ∀ H2, GxR.Tabbed P H1 H2 → R J H2)
    (hQ : ∀ J H2 a s5, R J H2 → Fresh X pins σ elt tg iter ifs scope gpos J H2 a s5 → Q' (.ref a) s5) :
    wpAny (model X.prog X.w) X.A (eval (.GeneratorExp elt [⟨tg, iter, ifs, 0⟩] scope gpos) X.env) Q' X.xe s := by
  have free0 : ∀ y ∈ scope.names, y.2 = .free → ∃ c, X.env.cells.lookup y.1 = some c := fun y hy e => (ok.free y hy e).elim (fun k => I0.ok.has _ (.inl k)) fun k => I0.ok.has _ (.inr k)
  refine wpAny_GeneratorExp_make co (closure_ok free0) nc dot ok.kind (by have := hr.dp; omega) ?_ hs
  refine thn (hi.run pins s σ H _ I0 h) fun xv s1 h1 => thn h1 fun itv s2 h2 => ?_
  obtain ⟨it, fp, tn, J, H2, rfl, I2, T, st2, f2, ⟨ps, hP, ht⟩, hR⟩ := h2
  have hPs : s2.heap.get? P = some { cls := .none, data := .fields ps } := I2.hok P _ hP
  have cd : PySem.W.CodeHd s2.heap c P := TB.code.keeps I2.bk
  obtain ⟨bm, ob, b1, b2, b3, b4, b5, b6, b7, b8⟩ := TB.bm
  refine ⟨I2.nolimit, ?_⟩
  have go : ∀ (code : Value) (h3 : Heap) (tk : Nat) (more : Array Value), Heap.ExtBut P s2.heap h3 → s2.heap.objs.size ≤ h3.objs.size → h3.get? P = some { cls := .none, data := .fields (ps ++ more) } → TriplesOk (ps ++ more).toList →
      wpAny (model X.prog X.w) X.A (builtinsFor X.env.globals X.env.builtins) (fun bi s4 => ∀ h', h'.Ns s4.heap.objs.size (fun y => if y = ".0" then some (.ref it) else none) → Heap.SameBut s4.heap.objs.size (s4.heap.push { cls := .type "frame", data := .dict #[] }) h' →
          Q' (.ref h'.objs.size) { s4 with
            gens := s4.gens.push (.fresh (.compStart (.GeneratorExp elt [⟨tg, iter, ifs, 0⟩] scope gpos) 0 (.ref it) .none (genEnv scope (cloFrom X.env.cells scope.names []) s4.heap.objs.size code bi X.env))),
            toks := s4.toks + 1 + 1 + 1,
            heap := h'.push { cls := .type "generator", data := .fields #[.int s4.gens.size 0, .str "<genexpr>" (s4.toks + 1), .str (X.env.qual ++ "<genexpr>") (s4.toks + 1 + 1)] } }) X.xe { s2 with heap := h3, toks := tk } := by
    intro code h3 tk more hx hsz hP3 ht3
    have kP : ∀ b o, b ≠ P → s2.heap.get? b = some o → h3.get? b = some o := fun b o hb e => hx b o hb e
    refine wpAny_builtinsFor (m := X.mg) (by rw [I2.ok.glob]; exact (I2.mod.glob.keeps I2.bk).extBut hx TB.gP) b1 b2 (kP _ _ b4 (I2.bk _ _ b5)) b6 b7 b8 ?_
    intro h' hn' hsb
    have I3 := GxR.inv_tab (more := more) (h' := h3) (g' := s2.gens) (d' := s2.drawn) (t' := tk) I2 hP kP hP3 I2.bare
    have nP : ∀ b ∈ fp, b ≠ P := fun b hb z => by
      have q := (f2 b hb).1
      rw [z, hP] at q
      cases q
    have st3 : tn 0 h3 := T.keep _ _ _ st2 fun b hb o e => kP b o (nP b hb) e
    have sz : h'.objs.size = h3.objs.size + 1 := by
      have q : h'.objs.size = (h3.push { cls := .type "frame", data := .dict #[] }).objs.size := hsb.1
      rw [q, Heap.size_push]
    have k5 : ∀ b o, h3.get? b = some o → (h'.push { cls := .type "generator", data := .fields #[.int s2.gens.size 0, .str "<genexpr>" (tk + 1), .str (X.env.qual ++ "<genexpr>") (tk + 1 + 1)] }).get? b = some o := fun b o e =>
      Heap.get?_push_of_some _ (hsb.extBut b o (Nat.ne_of_lt (Heap.lt_size e)) (Heap.get?_push_of_some _ e))
    refine hQ J _ h'.objs.size _ (hR _ ⟨⟨ps ++ more, upd_same, ht3⟩, fun b hb => upd_ne hb⟩) ⟨{ s2 with heap := h3, toks := tk }, it, fp, tn, code, s2.gens.size, { cls := .type "generator", data := .fields #[.int s2.gens.size 0, .str "<genexpr>" (tk + 1), .str (X.env.qual ++ "<genexpr>") (tk + 1 + 1)] }, _,
      I3, T, T.keep _ _ _ st3 fun b _ o e => k5 b o e, fun b hb => ?_, k5, hn'.push _, rfl, AllBare.push I2.bare rfl, Heap.get?_push_size _ rfl, by rw [sz]; exact Nat.lt_succ_self _, ⟨_, _, rfl, rfl, rfl⟩, Array.getElem?_push_size .., I3.nolimit.keeps k5⟩
    obtain ⟨f0, fr⟩ := f2 b hb
    obtain ⟨o, e, _⟩ := T.obj _ _ st2 b hb
    exact ⟨⟨by rw [upd_ne (nP b hb)]; exact f0, fr⟩, Heap.lt_size (kP b o (nP b hb) e)⟩
  cases hf : codeAmong gpos ps.toList with
  | none =>
    refine wpAny_genexprCodeX hcode (cd.code hPs ht) (cd.tab hPs) hf fun c' h' tk hx hge hlt hco' _ htab' _ => ?_
    obtain ⟨o1, vs, f1, tf, fl, tg1, inF, tx, tt, op, _, _, _, _, _, _, _, _, _, htr, _⟩ := hco'
    exact go _ h' tk _ hx (Nat.le_trans hge (Nat.le_of_lt hlt)) htab'.2 htr
  | some cv =>
    refine wpAny_genexprCode_hit hcode (cd.code hPs ht) hf ?_
    exact go cv s2.heap s2.toks #[] (Heap.ExtBut.refl _ _) (Nat.le_refl _) (by simpa using hPs) (by simpa using ht)
/-- all(elt for tg in iter if ..), any(..): vs the slots of the expression's own names -/
def tGX (b0 : Bool) (K : PySem.W.Frag) (P : Addr) (wi : TI) (g : TG) (tt : TT) (te : TE) (vs : List Nat) : TE := fun σ H Q => wi σ H fun J H1 => GxR.TabG H1 P ∧ ∀ H2, GxR.Tabbed P H1 H2 → ∃ W : Nat → Nat → Hp → Prop, (∃ m, W 0 m H2) ∧ GXW J g tt te K vs σ b0 (fun b H => Q (.bl b) H) W
/-- the blocks of a generator expression -/
def GBlk (X : Cx) (scope : Scope) (C : Cx → Prop) : Prop := ∀ (s : Shared) (H : Hp) (cl : List (Str × Addr)) (L bi : Addr) (code : Value) (A' : Around) (fp : List Addr), A'.handled = none → A'.depth = X.A.depth + 1 → A'.units = X.A.units + 5 → C (genX X A' s H scope (genEnv scope cl L code bi X.env) fp)
variable {g : TG} {tt : TT} {te : TE}
theorem gx_ready {J : It} {H2 : Hp} {a : Addr} {s5 : Shared} {b0 : Bool} {Q : VK} {W : Nat → Nat → Hp → Prop} {m0 k : Nat} (hr : Room k X.A) (ok : BlkOk X.N X.env.scope scope own) (nc : ∀ y ∈ scope.names, y.2 ≠ .cell) (co : scope.isCoroutine = false) (hN : X.N.Nodup)
    (hg : GBlk X scope fun Y => PG Y tg g) (ht : GBlk X scope fun Y => PTs Y ifs tt) (he : GBlk X scope fun Y => PE Y elt te) (hc : X.calm = true) (F : Fresh X pins σ elt tg iter ifs scope gpos J H2 a s5) (w0 : W 0 m0 H2) (turn : GXW J g tt te X.K (own.map (·.2)) σ b0 (fun b H => Q (.bl b) H) W) :
    ∃ (Y : Cx) (ob : Obj) (gi : Nat), Y.prog = X.prog ∧ Y.w = X.w ∧ (∃ nm qn, ob.cls = .type "generator" ∧ ob.data = .fields #[.int gi 0, nm, qn] ∧ ob.slots = #[]) ∧ s5.heap.get? a = some ob ∧ GXA Y X.A.in1.in1 a ob b0 (fun b H => Q (.bl b) H) gi (m0 + 1) s5 ∧
      ∀ s' pl σ' H' b, Inv Y pl σ' H' s' → Q (.bl b) H' → EP X pins σ Q (.bool b) s' := by
  obtain ⟨s4, it, fp, tn, code, gi, ob, m, I3, T, st5, f4, k5, ns5, os5, bare5, at5, lt5, hob, hgi, lim⟩ := F.ex
  obtain ⟨nm, qn, o1, o2, o3⟩ := id hob
  have hA' : (X.A.in1.in1.over (.compLoop (.GeneratorExp elt [⟨tg, iter, ifs, 0⟩] scope gpos) 0 (.ref it) .none (genEnv scope (cloFrom X.env.cells scope.names []) s4.heap.objs.size code builtinsNs X.env)) []).handled = none := hr.hd
  have hF : (X.A.in1.in1.over (.compLoop (.GeneratorExp elt [⟨tg, iter, ifs, 0⟩] scope gpos) 0 (.ref it) .none (genEnv scope (cloFrom X.env.cells scope.names []) s4.heap.objs.size code builtinsNs X.env)) []).frames = some (genEnv scope (cloFrom X.env.cells scope.names []) s4.heap.objs.size code builtinsNs X.env :: X.stack) := by
    show X.A.frames.map _ = _
    rw [I3.ok.frames]; rfl
  have IY := gen_start I3 ok nc hN f4 hA' hF k5 ns5 os5 bare5
  generalize hY : genX X (X.A.in1.in1.over (.compLoop (.GeneratorExp elt [⟨tg, iter, ifs, 0⟩] scope gpos) 0 (.ref it) .none (genEnv scope (cloFrom X.env.cells scope.names []) s4.heap.objs.size code builtinsNs X.env)) []) s4 H2 scope (genEnv scope (cloFrom X.env.cells scope.names []) s4.heap.objs.size code builtinsNs X.env) fp = Y at IY
  have pg : PG Y tg g := by rw [← hY]; exact hg s4 H2 _ _ _ _ _ fp hA' rfl rfl
  have pt : PTs Y ifs tt := by rw [← hY]; exact ht s4 H2 _ _ _ _ _ fp hA' rfl rfl
  have pe : PE Y elt te := by rw [← hY]; exact he s4 H2 _ _ _ _ _ fp hA' rfl rfl
  have na : H2 a = none := I3.hok.fresh (Nat.le_of_lt lt5)
  have nfs : a ∉ frs X.stack := fun z => by
    rcases List.mem_cons.mp (I3.stkSub a z) with z | z
    · have := I3.lt
      rw [← z] at this
      exact Nat.lt_asymm this lt5
    · exact I3.nofs (Nat.le_of_lt lt5) z
  have afp : a ∉ fp := fun z => Nat.lt_asymm (f4 a z).2 lt5
  have hcell : ∀ v, ob.data ≠ .cell v := fun v z => by rw [o2] at z; cases z
  refine ⟨Y, ob, gi, by rw [← hY], by rw [← hY], hob, at5, ⟨lim, _, hgi, rfl, ?_⟩, fun s' pl σ' H' b I' q => ?_⟩
  · have IP : Inv Y [(a, ob)] (wipe σ (own.map (·.2))) H2 (s5.setGen gi .running) := Inv.pins_of (inv_gens (t := s5.toks) (d := s5.drawn) IY (allBare_setGen bare5 rfl)) fun p hp => by
      rw [List.mem_singleton.mp hp]
      refine ⟨at5, na, ?_, ?_, hcell⟩
      · rw [← hY]; exact Nat.ne_of_gt lt5
      · rw [← hY]; exact nfs
    have seg := gx_start (Y := Y) (A2 := X.A.in1.in1) (elt := elt) (tg := tg) (iter := iter) (ifs := ifs) (scope := scope) (gpos := gpos) (it := it) (a := a) (ob := ob) (fp := fp) (vs := own.map (·.2)) (σ0 := σ) (b0 := b0) (Q := fun b H => Q (.bl b) H) (W := W) (m := m0) (s := s5.setGen gi .running) (H := H2)
      (by rw [← hY]) (by rw [← hY]; exact hc) (by rw [← hY]) (by rw [← hY]) (by rw [← hY]) (by rw [← hY]; exact co) (by rw [← hY]; exact T) pg pt pe hcell afp (by rw [← hY]; exact turn) IP st5 (fun b hb => (f4 b hb).1.1) w0
    have eY : Y.env = genEnv scope (cloFrom X.env.cells scope.names []) s4.heap.objs.size code builtinsNs X.env := by rw [← hY]
    rw [eY] at seg
    exact seg
  · refine ⟨.bl b, H', ?_, rfl, q⟩
    have e1 : Un (frs X.stack) fp H2 H' s4.heap s'.heap := by have := I'.base; rw [← hY] at this; exact this
    have e2 : s'.os = s4.os := by have := I'.os; rw [← hY] at this; exact this
    have e3 : HOk X.prog X.w H' s'.heap := by have := I'.hok; rw [← hY] at this; exact this
    exact I3.call' (ch := fp) e2 e1 e3 I'.bare fun b hb => ⟨(f4 b hb).1.2.2.2.1, (f4 b hb).1.2.1, (f4 b hb).1.2.2.2.2.1, (f4 b hb).1.2.2.2.2.2⟩
theorem pe_gx_all {k : Nat} {p pos : Pos} (hr : Room k X.A) (hgl : Gl X "all") (hm : X.mg "all" = none) (hb : bootBuiltins "all" = some (.builtin "all")) (TB : GxR.TabB X.base X.mg c P) (hcode : X.env.code = .ref c) (ok : BlkOk X.N X.env.scope scope own) (nc : ∀ y ∈ scope.names, y.2 ≠ .cell) (co : scope.isCoroutine = false) (dot : scope.names.lookup (".0" : Str) = some NameKind.local)
    (hN : X.N.Nodup) (hc : X.calm = true) (hi : PI X tg iter wi) (hg : GBlk X scope fun Y => PG Y tg g) (ht : GBlk X scope fun Y => PTs Y ifs tt) (he : GBlk X scope fun Y => PE Y elt te) (hs : ∀ v, genFold iter X.env v = pure v)
    (hst : starEach [.GeneratorExp elt [⟨tg, iter, ifs, 0⟩] scope gpos] X.env = (false, eval (.GeneratorExp elt [⟨tg, iter, ifs, 0⟩] scope gpos) X.env) :: starEach [] X.env) :
    PE X (.Call (.Name "all" p) [.GeneratorExp elt [⟨tg, iter, ifs, 0⟩] scope gpos] [] pos) (tGX true X.K P wi g tt te (own.map (·.2))) := by
  refine ⟨fun pins s σ H Q I0 h => ?_⟩
  refine wpAny_Call_Name_kw (ld_blt I0 hgl hm hb ?_)
  refine PyProof.Rows.callWith_builtin1 ?_ hst (by rfl)
  rw [hst]
  refine Calls.spliced_cons (gen_make hr TB hcode ok nc co dot hi hs I0 h fun J H2 a s5 ⟨W, ⟨m0, w0⟩, turn⟩ Fr0 => ?_)
  refine Calls.spliced_nil ?_
  obtain ⟨Y, ob, gi, e1, e2, hob, at5, ready, fin⟩ := gx_ready hr ok nc co hN hg ht he hc Fr0 w0 turn
  obtain ⟨nm, qn, o1, o2, o3⟩ := id hob
  refine call_function_tree F.kind_all F.plain_all F.entry_all (F.args_all1 _) ?_
  unfold Builtin.«all»
  refine wpAny_bind (m := oneArg "all" _) (wpAny_pure ?_)
  refine wpAny_bind (wpAny_pyIter_gen (g := gi) ⟨ob, nm, qn, at5, o1, o2, o3⟩ ?_)
  rw [← e1, ← e2]
  refine wpAny_pure ⟨plainId_quiet F.plain_all_loop _, gx_all (A := X.A) hr.hd (by have := hr.dp; omega) hob ?_ (m0 + 1) s5 at5 ready⟩
  exact fun s' pl σ' H' b I' q => fin s' pl σ' H' b I' q
theorem pe_gx_any {k : Nat} {p pos : Pos} (hr : Room k X.A) (hgl : Gl X "any") (hm : X.mg "any" = none) (hb : bootBuiltins "any" = some (.builtin "any")) (TB : GxR.TabB X.base X.mg c P) (hcode : X.env.code = .ref c) (ok : BlkOk X.N X.env.scope scope own) (nc : ∀ y ∈ scope.names, y.2 ≠ .cell) (co : scope.isCoroutine = false) (dot : scope.names.lookup (".0" : Str) = some NameKind.local)
    (hN : X.N.Nodup) (hc : X.calm = true) (hi : PI X tg iter wi) (hg : GBlk X scope fun Y => PG Y tg g) (ht : GBlk X scope fun Y => PTs Y ifs tt) (he : GBlk X scope fun Y => PE Y elt te) (hs : ∀ v, genFold iter X.env v = pure v)
    (hst : starEach [.GeneratorExp elt [⟨tg, iter, ifs, 0⟩] scope gpos] X.env = (false, eval (.GeneratorExp elt [⟨tg, iter, ifs, 0⟩] scope gpos) X.env) :: starEach [] X.env) :
    PE X (.Call (.Name "any" p) [.GeneratorExp elt [⟨tg, iter, ifs, 0⟩] scope gpos] [] pos) (tGX false X.K P wi g tt te (own.map (·.2))) := by
  refine ⟨fun pins s σ H Q I0 h => ?_⟩
  refine wpAny_Call_Name_kw (ld_blt I0 hgl hm hb ?_)
  refine PyProof.Rows.callWith_builtin1 ?_ hst (by rfl)
  rw [hst]
  refine Calls.spliced_cons (gen_make hr TB hcode ok nc co dot hi hs I0 h fun J H2 a s5 ⟨W, ⟨m0, w0⟩, turn⟩ Fr0 => ?_)
  refine Calls.spliced_nil ?_
  obtain ⟨Y, ob, gi, e1, e2, hob, at5, ready, fin⟩ := gx_ready hr ok nc co hN hg ht he hc Fr0 w0 turn
  obtain ⟨nm, qn, o1, o2, o3⟩ := id hob
  refine call_function_tree F.kind_any F.plain_any F.entry_any (F.args_any1 _) ?_
  unfold Builtin.«any»
  refine wpAny_bind (m := oneArg "any" _) (wpAny_pure ?_)
  refine wpAny_bind (wpAny_pyIter_gen (g := gi) ⟨ob, nm, qn, at5, o1, o2, o3⟩ ?_)
  rw [← e1, ← e2]
  refine wpAny_pure ⟨plainId_quiet F.plain_any_loop _, gx_any (A := X.A) hr.hd (by have := hr.dp; omega) hob ?_ (m0 + 1) s5 at5 ready⟩
  exact fun s' pl σ' H' b I' q => fin s' pl σ' H' b I' q
end
end EVG
namespace EV
open L2 PySem PySem.Spec PyProof.Rows EVG
theorem boot_all' : bootBuiltins "all" = some (.builtin "all") := by decide +kernel
theorem boot_any' : bootBuiltins "any" = some (.builtin "any") := by decide +kernel
def gxF (b0 : Bool) (q : Src) (m : MG) (t : MT) (el : ME) : Nat → Nat → FT → En → S → R D
  | 0, _, _, _, _ => .no
  | n + 1, i, F, e, s => match q.at s i with
    | none => .no
    | some none => .ok (.bl b0) s
    | some (some d) => (m F e d s).bind fun e1 s0 => (t F e1 s0).bind fun b s1 => if b then (el F e1 s1).bind fun x s2 => onTru x s2 fun k => if k = b0 then gxF b0 q m t el n (i + 1) F e s2 else .ok (.bl (!b0)) s2 else gxF b0 q m t el n (i + 1) F e s1
def mGx (b0 : Bool) (it : MI) (m : MG) (t : MT) (el : ME) (vs : List Nat) : ME := fun F e s => (it F e s).bind fun q s1 => noEx (gxF b0 q m t el 100000 0 F (wipeE e vs) s1)
section
variable {g : Cfg} {H H1 H2 : Hp} {ι ι1 : List Addr} {s : S} {P : Addr}
/-- a table grows -/
theorem RS.tabbed (R : RS g.K g.T H ι s) (hP : Am.tab P ∈ g.T.l) (hn : ∀ q, Am.lm P q ∉ g.T.l) (h : GxR.Tabbed P H H2) : Fw g.K H ι H2 ι ∧ RS g.K g.T H2 ι s := by
  obtain ⟨⟨ps, e1, e2⟩, oth⟩ := h
  obtain ⟨ps0, k1, k2⟩ : TabH H P := R.tab _ hP
  have ne : ∀ {b : Addr} {o : HO}, H b = some o → (∀ q, o ≠ .tbl q) → b ≠ P := fun {b o} hb hn z => by rw [z, k1] at hb; exact hn ps0 (Option.some.inj hb).symm
  have up : ∀ {b : Addr} {o : HO}, H b = some o → (∀ q, o ≠ .tbl q) → H2 b = some o := fun {b o} hb hn => (oth b (ne hb hn)).trans hb
  have f : Fw g.K H ι H2 ι := by
    refine ⟨fun a xs h => ?_, ⟨[], by simp, by simp⟩, fun a h => ?_, fun a o h _ ht => up h ht, fun a o u h => up h fun q z => by cases z⟩
    · rcases h with (h | ⟨b, h⟩) | h
      · exact .inl (.inl (up h fun q z => by cases z))
      · exact .inl (.inr ⟨b, up h fun q z => by cases z⟩)
      · exact .inr h
    · by_cases z : a = P
      · rw [z, e1] at h; cases h
      · exact (oth a z).symm.trans h
  refine ⟨f, ⟨fun t ht => ?_, R.n, R.len, R.nd, fun r c a e h => ?_⟩⟩
  · have k := R.tab t ht
    cases t with
    | tab P' =>
      obtain ⟨qs, q1, q2⟩ := k
      by_cases z : P' = P
      · subst z; exact ⟨ps, e1, e2⟩
      · exact ⟨qs, (oth P' z).trans q1, q2⟩
    | xd d fs => exact ⟨up k.1 fun q z => (by cases z), k.2⟩
    | lm P' q =>
      obtain ⟨qs, q1, q2, q3⟩ := k
      have z : P' ≠ P := fun z => hn q (z ▸ ht)
      refine ⟨qs, (oth P' z).trans q1, q2, fun pos cv hc => ?_⟩
      obtain ⟨c, e1, e2⟩ := q3 pos cv hc
      exact ⟨c, e1, up e2 LamX.codeO_ne⟩
  · obtain ⟨o, ho, _, n2, _⟩ := (R.at h e).some
    exact (R.cell r c a e h).fw f (oth a (ne ho n2))
theorem tRn.bind {α β γ δ : Type} {E : XK} {Rl : Hp → List Addr → α → β → Prop} {Rl2 : Hp → List Addr → γ → δ → Prop} {r : R α} {f : α → S → R γ} {Q : δ → Hp → Prop} (h : tR g E Rl2 (noEx (r.bind f)) H ι Q)
    {Q' : β → Hp → Prop} (k : ∀ d s v H' ι', Fw g.K H ι H' ι' → RS g.K g.T H' ι' s → Rl H' ι' d v → tR g E Rl2 (noEx (f d s)) H' ι' Q → Q' v H') : tR g E0 Rl r H ι Q' := by
  cases r with
  | ok d s => exact fun v H2 ι2 f2 a b => k d s v H2 ι2 f2 a b (tR.fw f2 h)
  | ex x s => exact h.elim
  | no => exact h.elim
def GxW (g : Cfg) (E : XK) (Q : VK) (H1 : Hp) (ι1 : List Addr) (b0 : Bool) (sr : Src) (m : MG) (t : MT) (el : ME) (e0 : En) (σ0 : L2.St) (i n : Nat) (H : Hp) : Prop :=
  ∃ ι s, Fw g.K H1 ι1 H ι ∧ RS g.K g.T H ι s ∧ RE g.K H ι e0 σ0 ∧ tRe g E (noEx (gxF b0 sr m t el n i g.F e0 s)) H ι Q
theorem gx_sound {W : WX} {K : PySem.W.Frag} {vs : List Nat} {wi : MI} {m : MG} {t : MT} {el : ME} {b0 : Bool} (hK : K = g.K) (hP : Am.tab P ∈ g.T.l) (hn : ∀ q, Am.lm P q ∉ g.T.l) {σ : L2.St} {H : Hp} {Q : VK} (h0 : te g W (mGx b0 wi m t el vs) σ H Q) : tGX b0 K P (ti g W wi) (gs g vs m) (tt g WN t) (te g WN el) vs σ H Q := by
  obtain ⟨ι, e, s, R, q, h⟩ := h0
  refine ⟨ι, e, s, R, q, tR.bind h fun sr s1 J H1 ι1 _ f1 R1 r1 h1 => ⟨R1.tab _ hP, fun H2 tb => ?_⟩⟩
  obtain ⟨f2, R2⟩ := R1.tabbed hP hn tb
  refine ⟨fun i n H => GxW g (wat W σ) Q H2 ι1 b0 sr m t el (wipeE e vs) (wipe σ vs) i n H, ⟨100000, ι1, s1, Fw.refl, R2, ((q.fw f1).wipe vs).fw f2, h1.fw f2⟩, ?_⟩
  rintro i n H3 ⟨ι3, s3, f3, R3, q3, h3⟩
  cases n with
  | zero => exact h3.elim
  | succ n =>
    obtain ⟨stp, go⟩ := r1 H3 ι3 s3 (f2.trans f3) R3 i
    unfold gxF at h3
    cases ha : sr.at s3 i with
    | none => simp only [ha] at h3; exact h3.elim
    | some o =>
      simp only [ha] at h3
      cases o with
      | none => exact .inl ⟨stp ha, tR.of h3 R3 (.bl _)⟩
      | some d =>
        simp only at h3
        obtain ⟨g1, g2⟩ := go d ha
        refine .inr ⟨g1, fun H' => ∃ n', n' < n + 1 ∧ GxW g (wat W σ) Q H2 ι1 b0 sr m t el (wipeE e vs) (wipe σ vs) (i + 1) n' H', fun H' w => w, fun x H4 y => ?_⟩
        obtain ⟨f4, R4, rx⟩ := g2 x H4 y
        have h4 := tR.fw f4 h3
        refine ⟨ι3, wipeE e vs, s3, d, R4, q3.fw f4, rx, tRn.bind h4 fun e1 s5 σ5 H5 ι5 f5 R5 q5 h5 => ⟨q5.2.trans wipe_wipe, ι5, e1, s5, R5, q5.1, tR.e0 (tRn.bind h5 fun b s6 b' H6 ι6 f6 R6 eb h6 => ?_)⟩⟩
        subst eb
        have fg := (f4.trans f5).trans f6
        cases b with
        | false => exact ⟨n, Nat.lt_succ_self n, ι6, s6, f3.trans fg, R6, q3.fw fg, h6⟩
        | true =>
          rw [if_pos rfl] at h6 ⊢
          refine ⟨ι6, e1, s6, R6, q5.1.fw f6, tR.e0 (tRn.bind h6 fun y s7 v7 H7 ι7 f7 R7 r7 h7 => ?_)⟩
          unfold onTru at h7
          cases htr : truD y s7 with
          | none => simp only [htr] at h7; exact h7.elim
          | some k =>
            simp only [htr] at h7
            refine ⟨k, by rw [hK]; exact tru_of R7 r7 htr, ?_⟩
            by_cases hk : k = b0
            · rw [if_pos hk] at h7 ⊢
              exact ⟨n, Nat.lt_succ_self n, ι7, s7, f3.trans (fg.trans f7), R7, q3.fw (fg.trans f7), h7⟩
            · rw [if_neg hk] at h7 ⊢
              exact tR.of h7 R7 (.bl _)
end
section
variable {X : Cx} {B : List Row} {Z : List (Str × GV)} {g : Cfg} {W : WX} {n : Nat} {N : List Str} {ns : Ns} {b : Bool}
/-- within a generator expression's frame -/
theorem Ct.gen (C : Ct X B Z g W n N ns) {b : Option Bool} (Dd : Dp X g n b) {scope : Scope} (hk : scope.kind = .function) {s : Shared} {H : Hp} {cl : List (Str × Addr)} {L bi : Addr} {code : Value} {A' : Around} {fp : List Addr} (hh : A'.handled = none) (hd : A'.depth = X.A.depth + 1) (hu : A'.units = X.A.units + 5) :
    Ct (genX X A' s H scope (genEnv scope cl L code bi X.env) fp) B Z g WN n N scope.names where
  at_ := ⟨C.at_.K, C.at_.w, C.at_.calm, by have := Dd.room.un; show A'.units + 200 < cLine; omega, takes0, PassesOwn.never⟩
  eN := C.eN
  nd := C.nd
  room := ⟨hh, by have := Dd.room.dp; show A'.depth + 3 * n + 5 < _; omega, by have := Dd.room.un; show A'.units + 16 * n + 200 < _; omega⟩
  l := fun x h => h
  c := fun x h => h
  f := fun x h => .inl h
  gl := fun x h => h
  fnc := fun x h => by
    show (scope.names.lookup x == some .cell) = true
    rw [h]; rfl
  kind := hk
  nm := fun x v h => by
    have z := C.nm x v h
    cases v with
    | fn i => exact z
    | bi => exact z
    | mf id => exact z
    | cst d => exact z
    | exc => exact z
def gxB (scope : Scope) : Bool := !scope.isCoroutine && (scope.names.all fun y => !(y.2 == .cell)) && decide (scope.names.lookup (".0" : Str) = some NameKind.local)
theorem gxB_of {scope : Scope} (h : gxB scope = true) : scope.isCoroutine = false ∧ (∀ y ∈ scope.names, y.2 ≠ .cell) ∧ scope.names.lookup (".0" : Str) = some NameKind.local := by
  unfold gxB at h
  simp only [Bool.and_eq_true, Bool.not_eq_true', List.all_eq_true, decide_eq_true_eq] at h
  refine ⟨h.1.1, fun y hy e => ?_, h.2⟩
  have q := h.1.2 y hy
  rw [e] at q
  cases q
/-- all(elt for tg in iter if ..) -/
theorem gx_all_ (C : Ct X B Z g W n N ns) (Dd : Dp X g n true) (own : List (Str × Nat)) {elt tg iter : PySem.Expr} {ifs : List PySem.Expr} {scope : Scope} {p pos gpos : Pos} {wi : MI} {m : MG} {t : MT} {el : ME} (h1 : glB' ns "all" = true) (hz : Z.lookup ("all" : Str) = some GV.bi) (hb : blkC N (scOf ns) scope own = true) (hg : gxB scope = true) (hi : PI X tg iter (ti g W wi))
    (h : ∀ {Y : Cx}, Ct Y B Z g WN n N scope.names → PG Y tg (gs g (own.map (·.2)) m) ∧ PTs Y ifs (tt g WN t) ∧ PE Y elt (te g WN el)) (hs : ∀ x, genFold iter X.env x = pure x := by intro _; rfl)
    (hst : starEach [.GeneratorExp elt [⟨tg, iter, ifs, 0⟩] scope gpos] X.env = (false, eval (.GeneratorExp elt [⟨tg, iter, ifs, 0⟩] scope gpos) X.env) :: starEach [] X.env := by rfl) :
    PE X (.Call (.Name "all" p) [.GeneratorExp elt [⟨tg, iter, ifs, 0⟩] scope gpos] [] pos) (te g W (mGx true wi m t el (own.map (·.2)))) := by
  obtain ⟨c, P, hcode, TB, hT, hTn⟩ := Dd.tab rfl
  have ok := C.blkOk hb
  obtain ⟨g1, g2, g3⟩ := gxB_of hg
  exact PE.imp (pe_gx_all C.room (C.glob (glB_of h1).1) (C.nm _ _ hz) boot_all' TB hcode ok g2 g1 g3 (by rw [C.eN]; exact C.nd) C.at_.calm hi (fun _ _ _ _ _ _ _ _ a b c => (h (C.gen Dd ok.kind a b c)).1) (fun _ _ _ _ _ _ _ _ a b c => (h (C.gen Dd ok.kind a b c)).2.1) (fun _ _ _ _ _ _ _ _ a b c => (h (C.gen Dd ok.kind a b c)).2.2) hs hst)
    fun σ H Q hq => gx_sound C.at_.K hT hTn hq
/-- any(elt for tg in iter if ..) -/
theorem gx_any_ (C : Ct X B Z g W n N ns) (Dd : Dp X g n true) (own : List (Str × Nat)) {elt tg iter : PySem.Expr} {ifs : List PySem.Expr} {scope : Scope} {p pos gpos : Pos} {wi : MI} {m : MG} {t : MT} {el : ME} (h1 : glB' ns "any" = true) (hz : Z.lookup ("any" : Str) = some GV.bi) (hb : blkC N (scOf ns) scope own = true) (hg : gxB scope = true) (hi : PI X tg iter (ti g W wi))
    (h : ∀ {Y : Cx}, Ct Y B Z g WN n N scope.names → PG Y tg (gs g (own.map (·.2)) m) ∧ PTs Y ifs (tt g WN t) ∧ PE Y elt (te g WN el)) (hs : ∀ x, genFold iter X.env x = pure x := by intro _; rfl)
    (hst : starEach [.GeneratorExp elt [⟨tg, iter, ifs, 0⟩] scope gpos] X.env = (false, eval (.GeneratorExp elt [⟨tg, iter, ifs, 0⟩] scope gpos) X.env) :: starEach [] X.env := by rfl) :
    PE X (.Call (.Name "any" p) [.GeneratorExp elt [⟨tg, iter, ifs, 0⟩] scope gpos] [] pos) (te g W (mGx false wi m t el (own.map (·.2)))) := by
  obtain ⟨c, P, hcode, TB, hT, hTn⟩ := Dd.tab rfl
  have ok := C.blkOk hb
  obtain ⟨g1, g2, g3⟩ := gxB_of hg
  exact PE.imp (pe_gx_any C.room (C.glob (glB_of h1).1) (C.nm _ _ hz) boot_any' TB hcode ok g2 g1 g3 (by rw [C.eN]; exact C.nd) C.at_.calm hi (fun _ _ _ _ _ _ _ _ a b c => (h (C.gen Dd ok.kind a b c)).1) (fun _ _ _ _ _ _ _ _ a b c => (h (C.gen Dd ok.kind a b c)).2.1) (fun _ _ _ _ _ _ _ _ a b c => (h (C.gen Dd ok.kind a b c)).2.2) hs hst)
    fun σ H Q hq => gx_sound C.at_.K hT hTn hq
end
end EV
namespace EVS
open PySem PySem.W PyProof.Rows SeqAt
/-- what a key's first item is, as sorting asks -/
def headV : PyData → Bool
  | .tuple (_ :: _) => true
  | _ => false
section
variable {prog : Program} {w : World} {A : Around} {E : Value → Shared → Prop} {s : Shared}
theorem read_tup {h : Heap} {v : Value} {xs : List PyData} {as : List Addr} (r : Reads h v (.tuple xs) as) : ∃ a o vs n, v = .ref a ∧ h.get? a = some o ∧ o.cls = .type "tuple" ∧ o.data = .seq vs n ∧ vs.size = xs.length ∧ ReadsAll h vs.toList xs as := by
  cases r with
  | @tuple a o vs n _ _ h1 h2 h3 h4 => exact ⟨a, o, vs, n, rfl, h1, h2, h3, by simpa using ReadsAll.length _ _ _ h4, h4⟩
/-- the firsts: none where a tuple is empty -/
theorem firsts_run : ∀ (vs : List Value) (ds : List PyData) {Q : List (Option Value) → Shared → Prop}, EachIs (fun v d => ∃ as, Reads s.heap v d as) vs ds → (∀ d ∈ ds, ∃ xs, d = .tuple xs) →
    (∀ fs : List (Option Value), fs.map (·.isSome) = ds.map headV → Q fs s) → wpAny (model prog w) A (vs.mapM firstOfTuple') Q E s
  | _, _, Q, .nil, _, h => by
    rw [List.mapM_nil]
    exact wpAny_pure (h [] rfl)
  | v :: vs, d :: ds, Q, .cons ⟨as, r⟩ t, ht, h => by
    obtain ⟨xs, rfl⟩ := ht d (List.mem_cons_self ..)
    obtain ⟨a, o, us, n, rfl, h1, h2, h3, h4, _⟩ := read_tup r
    rw [List.mapM_cons]
    refine wpAny_bind ?_
    rw [kas_first_eq]
    refine wpAny_bind (Looks.here (show Looks (model prog w) s.heap (typeOf (.ref a)) o.cls from (Looks.ld h1).andThen .now) ?_)
    rw [h2, if_neg (by decide)]
    refine wpAny_bind (listItems_at h1 h3 (wpAny_pure ?_))
    refine wpAny_bind (firsts_run vs ds (Q := fun fs s' => wpAny (model prog w) A (pure (us[0]? :: fs)) Q E s') t (fun d hd => ht d (List.mem_cons_of_mem _ hd)) fun fs e => wpAny_pure (h _ ?_))
    rw [List.map_cons, List.map_cons, e]
    congr 1
    cases xs with
    | nil =>
      have : us[0]? = none := by rw [Array.getElem?_eq_none]; rw [h4]; exact Nat.le_refl _
      rw [this]; rfl
    | cons x xs =>
      have hz : 0 < us.size := by rw [h4]; exact Nat.succ_pos _
      rw [Array.getElem?_eq_getElem hz]; rfl
theorem type_tup : ∀ {vs : List Value} {ds : List PyData}, EachIs (fun v d => ∃ as, Reads s.heap v d as) vs ds → (∀ d ∈ ds, ∃ xs, d = .tuple xs) → ∀ v ∈ vs, Looks (model prog w) s.heap (typeOf v) (.type "tuple")
  | _, _, .nil, _, v, hv => absurd hv (by simp)
  | _, _, .cons (b := d) ⟨as, r⟩ t, ht, v, hv => by
    rcases List.mem_cons.mp hv with rfl | hv
    · obtain ⟨xs, rfl⟩ := ht d (List.mem_cons_self ..)
      obtain ⟨a, o, us, n, rfl, h1, h2, h3, h4, _⟩ := read_tup r
      exact h2 ▸ (Looks.ld h1).andThen .now
    · exact type_tup t (fun d hd => ht d (List.mem_cons_of_mem _ hd)) v hv
theorem find_some {l : List (Option Value)} (h : (l.map (·.isSome))[0]? = some true) : (l.toArray[0]?.bind id).isSome = true := by
  cases l with
  | nil => cases h
  | cons a l =>
    cases a with
    | none => cases h
    | some v => rfl
theorem find_none {l : List (Option Value)} (h : (l.map (·.isSome))[0]? ≠ some true) : (l.toArray[0]?.bind id).isSome = false := by
  cases l with
  | nil => rfl
  | cons a l =>
    cases a with
    | none => rfl
    | some v => exact absurd rfl h
theorem kind_mixed {vs : List Value} {ds : List PyData} (e : EachIs (fun v d => ∃ as, Reads s.heap v d as) vs ds) (ht : ∀ d ∈ ds, ∃ xs, d = .tuple xs) (hm : (ds.map headV).all id = false) {Q : SortKind → Shared → Prop}
    (h : Q (if (ds.map headV)[0]? = some true then general' else oneType') s) : wpAny (model prog w) A (keyKind' vs.toArray) Q E s := by
  rw [keyKind'_eq, List.mapM_toArray, map_eq_pure_bind]
  refine wpAny_bind (wpAny_bind (firsts_run vs ds e ht fun fs ef => wpAny_pure ?_))
  have hall : (fs.toArray.all fun x => x.isSome) = false := by
    rw [← ef] at hm
    rw [← Bool.not_eq_true] at hm ⊢
    intro z
    apply hm
    simp only [List.all_toArray, List.all_map, List.all_eq_true] at z ⊢
    exact z
  rw [if_neg (by rw [hall]; exact Bool.false_ne_true)]
  by_cases h0 : (ds.map headV)[0]? = some true
  · rw [if_pos h0] at h
    rw [← ef] at h0
    rw [if_pos (find_some h0)]
    exact wpAny_pure h
  · rw [if_neg h0] at h
    rw [← ef] at h0
    rw [if_neg (by rw [find_none h0]; exact Bool.false_ne_true)]
    rw [oneTypeOnly'_eq, List.mapM_toArray, map_eq_pure_bind]
    refine wpAny_bind (wpAny_bind (wpAny_bind (kas_mapM (r := Value.type "tuple") _ (fun v hv Q' hq => (type_tup e ht v hv).here hq) (wpAny_pure ?_))))
    obtain ⟨v, vr, rfl⟩ : ∃ v vr, vs = v :: vr := by
      cases vs with
      | nil => cases e; simp at hm
      | cons v vr => exact ⟨v, vr, rfl⟩
    have hall2 : ((List.map (fun _ => Value.type "tuple") (v :: vr)).toArray.all fun x => x == Value.type "tuple") = true := by
      simp only [List.all_toArray, List.all_map, List.all_eq_true]
      intro _ _
      rfl
    have h1 : (List.map (fun _ => Value.type "tuple") (v :: vr)).toArray[0]? = some (Value.type "tuple") := by simp
    rw [h1]
    simp only [hall2, if_true]
    exact wpAny_pure (wpAny_pure h)
/-- one key against another, both tuples: by tuple's own order -/
theorem oneLt_tup {f : Bool} {xs ys : List PyData} {a b : Value} {as bs : List Addr} {Q : Bool → Shared → Prop} (ra : Reads s.heap a (.tuple xs) as) (rb : Reads s.heap b (.tuple ys) bs) (h : alike (.tuple xs) (.tuple ys) = true)
    (hu : A.units + min (PyData.tuple xs).depth (PyData.tuple ys).depth < cLine) (hq : Q (dataLt (.tuple xs) (.tuple ys)) s) : wpAny (model prog w) A (oneLt' f a b) Q E s := by
  cases f with
  | false => exact oneLt_alike (fun z => by cases z) ra rb h (fun z => by cases z) hu hq
  | true =>
    have hal : alikeAll xs ys = true := by simpa [alike] using h
    obtain ⟨l, o, vs, n, rfl, h1, h2, h3, n1, h4⟩ := read_tup ra
    obtain ⟨l', o', vs', n', rfl, k1, k2, k3, n2, k4⟩ := read_tup rb
    obtain ⟨cls, dd, data, sl⟩ := o
    obtain ⟨cls2, dd2, data2, sl2⟩ := o'
    simp only at h2 h3 k2 k3
    subst h2 h3 k2 k3
    rw [dataLt_tuple, ← firstLt_toks xs ys hal, ← n1, ← n2] at hq
    rw [oneLt'_eq]
    simp only [if_true]
    refine wpAny_bind (wpAny_cRoomFor (room_here hu) ?_)
    refine wpAny_bind (wpAny_callSpecialIfBound?_slot (T := "tuple") ⟨_, h1, rfl⟩ F.slot_tuple_lt (call_meets F.slot_tuple_lt ⟨_, h1, rfl⟩ F.entry_tuple_lt (F.args_tuple_lt_2 _ _)
      (tuple_ltAt l l' vs vs' n n' dd dd2 sl sl2 (pairEq xs ys) (fun j => dataLt (xs.getD j .none) (ys.getD j .none))) ⟨h1, k1, fun j j1 j2 => ?_, fun j j1 j2 hj => ?_, ?_⟩))
    · have := eqAt_alikeAll xs ys A.in1 s vs.toList vs'.toList _ _ h4 k4 hal (room_in hu) j (by simpa using j1) (by simpa using j2)
      simpa using this
    · have := rcLt_alikeAll xs ys A.in1 s vs.toList vs'.toList _ _ h4 k4 hal (room_in hu) j (by simpa using j1) (by simpa using j2) hj
      simpa using this
    · exact wpAny_truthy_bool hq
/-- all are tuples -/
theorem sortsAt_tups {vs : List Value} {ds : List PyData} (e : EachIs (fun v d => ∃ as, Reads s.heap v d as) vs ds) (hal : AllAlike ds) (ht : ∀ d ∈ ds, ∃ xs, d = .tuple xs) (hu : ∀ d, d ∈ ds → A.units + d.depth < cLine) : SortsAt prog w A s (dataKind s.heap ds) vs := by
  by_cases hm : (ds.map headV).all id = true
  · refine SortsAt.data e hal (.inl fun d hd => ?_) hu
    obtain ⟨xs, rfl⟩ := ht d hd
    have q : headV (.tuple xs) = true := by
      rw [List.all_eq_true] at hm
      exact hm _ (List.mem_map.mpr ⟨_, hd, rfl⟩)
    cases xs with
    | nil => cases q
    | cons x r => exact ⟨x, r, rfl⟩
  · have hm' : (ds.map headV).all id = false := by simpa using hm
    have lt : ∀ (f : Bool) {E : Value → Shared → Prop} {x y : Value} {a b : List (Int ⊕ List Nat)} {Q : Bool → Shared → Prop}, (dataKind s.heap ds).keyOf x = some a → (dataKind s.heap ds).keyOf y = some b → Q ((dataKind s.heap ds).blt a b) s → wpAny (model prog w) A (oneLt' f x y) Q E s := by
      intro f E x y a b Q ha hb hq
      obtain ⟨d, as, hd, ra, rfl⟩ := dataKind_inv ha
      obtain ⟨d', as', hd', rb, rfl⟩ := dataKind_inv hb
      have hdd := hal d hd d' hd'
      have hroom : A.units + min d.depth d'.depth < cLine := Nat.lt_of_le_of_lt (Nat.add_le_add_left (Nat.min_le_left _ _) _) (hu d hd)
      obtain ⟨xs, rfl⟩ := ht d hd
      obtain ⟨ys, rfl⟩ := ht d' hd'
      exact oneLt_tup ra rb hdd hroom hq
    refine ⟨fun v hv => ?_, ?_⟩
    · obtain ⟨d, hd, as, r⟩ := e.left v hv
      exact ⟨_, dataKind_some hal hd r⟩
    · refine ⟨if (ds.map headV)[0]? = some true then general' else oneType', ?_, fun _ E Q hq => kind_mixed e ht hm' hq⟩
      split
      · exact fun E x y a b Q ha hb hq => lt false ha hb hq
      · exact fun E x y a b Q ha hb hq => lt true ha hb hq
/-- tuples all, or none of them a tuple or None -/
def Sort1 (ds : List PyData) : Prop := (∀ d ∈ ds, ∃ xs, d = .tuple xs) ∨ ∀ d ∈ ds, d ≠ .none ∧ ∀ xs, d ≠ .tuple xs
theorem sortsAt_one {vs : List Value} {ds : List PyData} (e : EachIs (fun v d => ∃ as, Reads s.heap v d as) vs ds) (hal : AllAlike ds) (hk : Sort1 ds) (hu : ∀ d, d ∈ ds → A.units + d.depth < cLine) : SortsAt prog w A s (dataKind s.heap ds) vs := by
  rcases hk with h | h
  · exact sortsAt_tups e hal h hu
  · exact SortsAt.data e hal (.inr h) hu
end
section
variable {α : Type} (le : α → α → Bool)
def insT (a : α) : List α → List α
  | [] => [a]
  | b :: l => if le a b = true then a :: b :: l else b :: insT a l
def isrt : List α → List α
  | [] => []
  | a :: l => insT le a (isrt l)
variable {le}
theorem insT_mid {a : α} : ∀ {l₁ l₂ : List α}, (∀ b ∈ l₁, le a b = false) → (∀ b ∈ l₂, le a b = true) → insT le a (l₁ ++ l₂) = l₁ ++ a :: l₂
  | [], [], _, _ => rfl
  | [], b :: l, _, h => by
    show (if le a b = true then _ else _) = _
    rw [if_pos (h b (List.mem_cons_self ..))]; rfl
  | b :: l, l₂, h, h' => by
    show (if le a b = true then _ else b :: insT le a (l ++ l₂)) = _
    rw [if_neg (by rw [h b (List.mem_cons_self ..)]; exact Bool.false_ne_true), insT_mid (fun c hc => h c (List.mem_cons_of_mem _ hc)) h']
    rfl
theorem mergeSort_isrt (tr : ∀ a b c : α, le a b = true → le b c = true → le a c = true) (tt : ∀ a b : α, (le a b || le b a) = true) : ∀ l : List α, l.mergeSort le = isrt le l
  | [] => by simp [isrt]
  | a :: l => by
    obtain ⟨l₁, l₂, h1, h2, h3⟩ := List.mergeSort_cons tr tt a l
    have hs := List.pairwise_mergeSort tr tt (a :: l)
    rw [h1, List.pairwise_append] at hs
    obtain ⟨_, hs, _⟩ := hs
    rw [List.pairwise_cons] at hs
    rw [h1]
    show _ = insT le a (isrt le l)
    rw [← mergeSort_isrt tr tt l, h2, insT_mid (fun b hb => by have := h3 b hb; simpa using this) fun b hb => hs.1 b hb]
end
end EVS
namespace EVS
open PySem PySem.W PyProof.Rows SeqAt
section
variable {prog : Program} {w : World} {A : Around} {E : Value → Shared → Prop} {s : Shared}
/-- gathering gives such values -/
def Gath (prog : Program) (w : World) (s : Shared) (r : Addr) (ok : List Value → Prop) : Prop := ∀ (A : Around) (E : Value → Shared → Prop) (Q : List Value → Shared → Prop), A.handled = none →
  (∀ s' vs, (∀ b o, s.heap.get? b = some o → s'.heap.get? b = some o) → s'.gens = s.gens → s'.os = s.os → ok vs → Q vs s') → wpAny (model prog w) A (collect (.ref r)) Q E s
theorem gath_list {l : Addr} {vs : List Value} (hl : s.heap.IsList l vs.toArray) (hz : vs.length ≤ sizeLine) : Gath prog w s l (fun us => us = vs) := by
  intro A E Q hh h
  refine collect_list hl (h _ _ (fun b o e => ?_) rfl rfl rfl) hz
  show ((s.heap.push (seqObj "list" #[] 0)).update s.heap.objs.size (Obj.mapSeq (· ++ vs.toArray))).get? b = some o
  rw [Heap.get?_update_ne _ _ _ _ (Nat.ne_of_lt (Heap.lt_size e))]
  exact Heap.get?_push_of_some _ e
theorem gath_tup {l : Addr} {vs : List Value} (hl : s.heap.IsTuple l vs.toArray) (hz : vs.length ≤ sizeLine) : Gath prog w s l (fun us => us = vs) := by
  intro A E Q hh h
  obtain ⟨o, ho, hc, n, hd⟩ := id hl
  unfold collect
  refine wpAny_bind (wpAny_runValue (codeAny_builtin entry_proto_collect' ?_))
  show wpAny _ _ (do again (.builtin "list.__iadd__" ⟨[← newList [], .ref l], []⟩)) _ _ s
  refine wpAny_bind (wpAny_newList (wpAny_pure ⟨Code.quiet_builtin _ (by decide +kernel), codeAny_builtin entry_list_iadd' ?_⟩))
  show wpAny _ _ (Builtin.List.listExtendWith (.ref s.heap.objs.size) (.ref l) (.ref s.heap.objs.size)) _ _ { s with heap := s.heap.push (seqObj "list" #[] 0) }
  unfold Builtin.List.listExtendWith
  have ho' : (s.heap.push (seqObj "list" #[] 0)).get? l = some o := Heap.get?_push_of_some _ ho
  refine wpAny_bind (wpAny_typeOf (T := "tuple") ⟨o, ho', hc⟩ ?_)
  have ht : (Value.type "tuple" == Value.type "tuple") = true := by rfl
  rw [if_pos (by rw [ht]; simp)]
  refine wpAny_bind (listItems_at ho' hd ?_)
  refine wpAny_bind (listItems_at (xs := #[]) (n := 0) (Heap.get?_push_size _ rfl) rfl ?_)
  rw [if_neg (by simp)]
  refine wpAny_bind (listUpdate_at (xs := #[]) (n := 0) (Heap.get?_push_size _ rfl) rfl ?_ (Nat.zero_le _) (by show (#[] ++ vs.toArray).size ≤ sizeLine + 1; simp only [Array.size_append, List.size_toArray, List.length_nil]; omega))
  refine wpAny_pure ?_
  show wpAny (model prog w) A (do
      let o ← load s.heap.objs.size
      match o.data with
      | .seq xs _ => pure xs.toList
      | _ => unsupported "internal:collect") Q E { s with heap := (s.heap.push (seqObj "list" #[] 0)).update s.heap.objs.size (Obj.mapSeq (· ++ vs.toArray)) }
  refine wpAny_bind (wpAny_load (get?_update_seq (Heap.get?_push_size _ rfl) _) ?_)
  show wpAny _ _ (pure ((#[] : Array Value) ++ vs.toArray).toList) Q E _
  rw [show ((#[] : Array Value) ++ vs.toArray).toList = vs by simp]
  refine wpAny_pure (h _ _ (fun b o e => ?_) rfl rfl rfl)
  show ((s.heap.push (seqObj "list" #[] 0)).update s.heap.objs.size (Obj.mapSeq (· ++ vs.toArray))).get? b = some o
  rw [Heap.get?_update_ne _ _ _ _ (Nat.ne_of_lt (Heap.lt_size e))]
  exact Heap.get?_push_of_some _ e
theorem gath_dict {d : Addr} {es : Array DictEntry} {ep : Nat} (lo : (d == sysModules) = false) (hm : s.heap.DictRaw d es ep) (hz : es.size ≤ sizeLine) : Gath prog w s d (fun us => us = es.toList.map (·.key)) := by
  intro A E Q hh h
  refine kdu_collect (KdlSrc.rawDict (prog := prog) (w := w) lo) hh hm hz fun h' tk acc k ia => ?_
  have e : acc.toList = es.toList.map (·.key) := by
    refine List.ext_getElem (by rw [Array.length_toList, List.length_map, Array.length_toList, ia.1]) fun i h1 h2 => ?_
    obtain ⟨hi, e⟩ := ia.2 i acc.toList[i] (by rw [← Array.getElem?_toList]; exact List.getElem?_eq_getElem h1)
    rw [e]
    simp
  exact h _ _ k rfl rfl e
/-- the members of a set, in some order -/
theorem gath_set {a : Addr} {es : Array (Int × Value)} {ep : Nat} {t : SetTable} (ha : L2.SetAt s.heap a es ep t) (hf : t.fits es.size = true) (hz : es.size < scanBound) (r : L2.Ris t.place.toList) (hl : w.params.followText "set-order" = true ∨ t.led = true) :
    Gath prog w s a (fun us => us.Perm (es.toList.map (·.2))) := by
  intro A E Q hh h
  exact L2.collect_set hh ha hf hz r hl fun s' out k _ g o p => h s' out k g o p
theorem sorted_gen {r : Addr} {β : Type} {enc : β → PyData} {R : Value → β → Prop} {P : List Value → List β → Prop} {Q : Value → Shared → Prop} (col : Gath prog w s r (fun vs => ∃ bs, P vs bs)) (hh : A.handled = none)
    (hP : ∀ vs bs, P vs bs → EachIs R vs bs ∧ EachIs (fun v b => ∃ as, Reads s.heap v (enc b) as) vs bs ∧ AllAlike (bs.map enc) ∧ Sort1 (bs.map enc) ∧ bs.length ≤ sizeLine ∧ ∀ b, b ∈ bs → A.units + 2 + (enc b).depth < cLine)
    (h : ∀ s' D vs bs (out : List Value) c, P vs bs → (∀ b o, s.heap.get? b = some o → s'.heap.get? b = some o) → s'.gens = s.gens → s'.os = s.os → s.heap.get? D = none → s'.heap.get? D = some (seqObj "list" out.toArray c) → EachIs R out (bs.mergeSort (dataLe false enc)) → Q (.ref D) s') :
    wpAny (model prog w) A (call (.builtin "sorted") [.ref r]) Q E s := by
  refine Calls.call_function_entry kind_sorted plain_sorted entry_sorted (args_sorted1 _) ?_
  unfold Builtin.«sorted»
  refine wpAny_bind (m := checkCount "sorted" 1 1 _) (wpAny_pure ?_)
  refine wpAny_bind (col A.in1 _ _ hh fun s1 vs k1 g1 o1 ⟨bs, pv⟩ => ?_)
  obtain ⟨e, er, hal, hk, hL, hu⟩ := hP vs bs pv
  have hL' : vs.length ≤ sizeLine := by rw [e.length]; exact hL
  refine wpAny_bind (wpAny_newList ?_ hL')
  have hz1 : s.heap.get? s1.heap.objs.size = none := by
    cases z : s.heap.get? s1.heap.objs.size with
    | none => rfl
    | some o => exact absurd (Heap.lt_size (k1 _ _ z)) (Nat.lt_irrefl _)
  show wpAny _ _ _ _ _ { s1 with heap := s1.heap.push (seqObj "list" vs.toArray 0) }
  have ho : (s1.heap.push (seqObj "list" vs.toArray 0)).get? s1.heap.objs.size = some (seqObj "list" vs.toArray 0) := Heap.get?_push_size _ rfl
  have k2 : ∀ b o, s.heap.get? b = some o → (sortingHeap (s1.heap.push (seqObj "list" vs.toArray 0)) s1.heap.objs.size vs).get? b = some o := fun b o eb =>
    sortingHeap_old (Nat.ne_of_lt (Heap.lt_size (k1 _ _ eb))) (Heap.get?_push_of_some _ (k1 _ _ eb))
  have er' : EachIs (fun v b => ∃ as, Reads (sortingHeap (s1.heap.push (seqObj "list" vs.toArray 0)) s1.heap.objs.size vs) v (enc b) as) vs bs := er.mono fun _ _ ⟨as, r⟩ => ⟨as, PyProof.Rows.Reads.keeps k2 r⟩
  have S : SortsAt prog w A.in1.in1 { s1 with heap := sortingHeap (s1.heap.push (seqObj "list" vs.toArray 0)) s1.heap.objs.size vs } (dataKind (sortingHeap (s1.heap.push (seqObj "list" vs.toArray 0)) s1.heap.objs.size vs) (bs.map enc)) vs :=
    sortsAt_one (s := { s1 with heap := sortingHeap (s1.heap.push (seqObj "list" vs.toArray 0)) s1.heap.objs.size vs }) (each_map (R := fun v d => ∃ as, Reads (sortingHeap (s1.heap.push (seqObj "list" vs.toArray 0)) s1.heap.objs.size vs) v d as) enc er') hal hk (bound_map hu)
  refine wpAny_bind (wpAny_holding (wpAny_call_entry_kw slot_list_sort ⟨_, ho, rfl⟩ entry_list_sort ?_ (args_list_sort _)))
  refine list_sort_vals (s := { s1 with heap := s1.heap.push (seqObj "list" vs.toArray 0) }) ho S hL' ⟨_, rfl, ?_⟩
  obtain ⟨c, hc⟩ := sortedHeap_at (vs := vs) (out := (sortVals (dataKind (sortingHeap (s1.heap.push (seqObj "list" vs.toArray 0)) s1.heap.objs.size vs) (bs.map enc)) false vs vs).toArray) ho
  refine wpAny_pure ⟨_, rfl, h _ _ vs bs _ c pv (fun b o eb => ?_) g1 o1 hz1 hc (sortVals_data false e er' hal)⟩
  have hb := Heap.lt_size (k1 _ _ eb)
  show (sortedHeap (s1.heap.push (seqObj "list" vs.toArray 0)) s1.heap.objs.size vs _).get? b = some o
  rw [sortedHeap_old (Nat.ne_of_lt hb) (by rw [size_push']; exact Nat.lt_succ_of_lt hb)]
  exact Heap.get?_push_of_some _ (k1 _ _ eb)
end
end EVS
namespace EV
open L2 PySem PySem.Spec PyProof.Rows
inductive Shp where
  | unk | non | bl | int | str | tup (l : List Shp) | lst (l : List Shp)
mutual
def fits : PyData → Shp → Bool
  | .none, .non => true
  | .bool _, .bl => true
  | .int _, .int => true
  | .str _, .str => true
  | .tuple xs, .tup ss => fitsAll xs ss
  | .list xs, .lst ss => fitsAll xs ss
  | _, _ => false
def fitsAll : List PyData → List Shp → Bool
  | [], _ => true
  | x :: xs, s :: ss => fits x s && fitsAll xs ss
  | _ :: _, [] => false
end
mutual
theorem fits_alike : ∀ (x y : PyData) (s : Shp), fits x s = true → fits y s = true → PySem.W.alike x y = true
  | .none, y, s, h, h' => by
    cases s with
    | non => cases y with
      | none => simp [PySem.W.alike]
      | _ => simp [fits] at h'
    | _ => simp [fits] at h
  | .bool _, y, s, h, h' => by
    cases s with
    | bl => cases y with
      | bool _ => simp [PySem.W.alike]
      | _ => simp [fits] at h'
    | _ => simp [fits] at h
  | .int _, y, s, h, h' => by
    cases s with
    | int => cases y with
      | int _ => simp [PySem.W.alike]
      | _ => simp [fits] at h'
    | _ => simp [fits] at h
  | .str _, y, s, h, h' => by
    cases s with
    | str => cases y with
      | str _ => simp [PySem.W.alike]
      | _ => simp [fits] at h'
    | _ => simp [fits] at h
  | .tuple xs, y, s, h, h' => by
    cases s with
    | tup ss => cases y with
      | tuple ys =>
        rw [PySem.W.alike]
        exact fitsAll_alike xs ys ss (by simpa [fits] using h) (by simpa [fits] using h')
      | _ => simp [fits] at h'
    | _ => simp [fits] at h
  | .list xs, y, s, h, h' => by
    cases s with
    | lst ss => cases y with
      | list ys =>
        rw [PySem.W.alike]
        exact fitsAll_alike xs ys ss (by simpa [fits] using h) (by simpa [fits] using h')
      | _ => simp [fits] at h'
    | _ => simp [fits] at h
  | .dict _, y, s, h, _ => by cases s <;> simp [fits] at h
theorem fitsAll_alike : ∀ (xs ys : List PyData) (ss : List Shp), fitsAll xs ss = true → fitsAll ys ss = true → PySem.W.alikeAll xs ys = true
  | [], _, _, _, _ => by simp [PySem.W.alikeAll]
  | _ :: _, [], _, _, _ => by simp [PySem.W.alikeAll]
  | x :: xs, y :: ys, [], h, _ => by simp [fitsAll] at h
  | x :: xs, y :: ys, s :: ss, h, h' => by
    rw [fitsAll, Bool.and_eq_true] at h h'
    rw [PySem.W.alikeAll, fits_alike x y s h.1 h'.1, fitsAll_alike xs ys ss h.2 h'.2]
    rfl
end
/-- what fits both, so far -/
def joinL (f : PyData → Shp → Shp) : List PyData → List Shp → List Shp
  | [], ss => ss
  | x :: xs, [] => f x .unk :: joinL f xs []
  | x :: xs, s :: ss => f x s :: joinL f xs ss
def Shp.subs : Shp → List Shp
  | .tup l => l
  | .lst l => l
  | _ => []
def joinS : Nat → PyData → Shp → Shp
  | 0, _, s => s
  | _ + 1, .none, _ => .non
  | _ + 1, .bool _, _ => .bl
  | _ + 1, .int _, _ => .int
  | _ + 1, .str _, _ => .str
  | n + 1, .tuple xs, s => .tup (joinL (joinS n) xs s.subs)
  | n + 1, .list xs, s => .lst (joinL (joinS n) xs s.subs)
  | _ + 1, .dict _, s => s
def isTupP : PyData → Bool
  | .tuple _ => true
  | _ => false
def notTN : PyData → Bool
  | .tuple _ => false
  | .none => false
  | _ => true
abbrev KD := D × PyData
def keyedL (s : S) (l : List D) : Option (List KD) := allO (l.map fun d => match toPy s 16 d with
  | some p => some (d, p)
  | none => none)
def shpOf (ps : List KD) : Shp := ps.foldl (fun a b => joinS 16 b.2 a) .unk
def okSort (ps : List KD) : Bool := (ps.all fun p => fits p.2 (shpOf ps)) && ((ps.all fun p => isTupP p.2) || ps.all fun p => notTN p.2)
def leKD (a b : KD) : Bool := PySem.W.dataLe false (fun q : KD => q.2) a b
def srt (s : S) (l : List D) : Option (List D) := match keyedL s l with
  | some ps => if okSort ps = true then some ((EVS.isrt leKD ps).map (·.1)) else none
  | none => none
theorem leKD_lt (a b : KD) : leKD a b = !(PyProof.Rows.lexLt itemOrd (PySem.W.keyToks b.2) (PySem.W.keyToks a.2)) := rfl
theorem leKD_trans : ∀ a b c : KD, leKD a b = true → leKD b c = true → leKD a c = true := by
  intro a b c h1 h2
  rw [leKD_lt] at h1 h2 ⊢
  simp only [Bool.not_eq_true'] at h1 h2 ⊢
  cases h : PyProof.Rows.lexLt itemOrd (PySem.W.keyToks c.2) (PySem.W.keyToks a.2) with
  | false => rfl
  | true =>
    rcases lex_negTrans (O := itemOrd) (PySem.W.keyToks c.2) (PySem.W.keyToks b.2) (PySem.W.keyToks a.2) h with z | z
    · rw [z] at h2; cases h2
    · rw [z] at h1; cases h1
theorem leKD_total : ∀ a b : KD, (leKD a b || leKD b a) = true := by
  intro a b
  rw [leKD_lt, leKD_lt]
  cases h1 : PyProof.Rows.lexLt itemOrd (PySem.W.keyToks b.2) (PySem.W.keyToks a.2) with
  | false => rfl
  | true =>
    cases h2 : PyProof.Rows.lexLt itemOrd (PySem.W.keyToks a.2) (PySem.W.keyToks b.2) with
    | false => rfl
    | true =>
      have := lex_trans (O := itemOrd) _ _ _ h1 h2
      rw [lex_irrefl] at this; cases this
theorem srt_spec {s : S} {l out : List D} (h : srt s l = some out) : ∃ ps : List KD, ps.map (·.1) = l ∧ (∀ p ∈ ps, toPy s 16 p.1 = some p.2) ∧ PySem.W.AllAlike (ps.map (·.2)) ∧ EVS.Sort1 (ps.map (·.2)) ∧ out = (ps.mergeSort (PySem.W.dataLe false (fun q : KD => q.2))).map (·.1) := by
  unfold srt at h
  cases hk : keyedL s l with
  | none => rw [hk] at h; cases h
  | some ps =>
    rw [hk] at h
    simp only at h
    split at h
    · rename_i ok
      cases h
      have key : ∀ (l : List D) (ps : List KD), allO (l.map fun d => match toPy s 16 d with | some p => some (d, p) | none => none) = some ps → ps.map (·.1) = l ∧ ∀ p ∈ ps, toPy s 16 p.1 = some p.2 := by
        intro l
        induction l with
        | nil => intro ps e; cases e; exact ⟨rfl, by simp⟩
        | cons d l ih =>
          intro ps e
          rw [List.map_cons] at e
          cases hd : toPy s 16 d with
          | none => simp only [hd] at e; cases e
          | some p =>
            simp only [hd] at e
            unfold allO at e
            split at e
            · rename_i ps' h'
              cases e
              obtain ⟨h1, h2⟩ := ih ps' h'
              refine ⟨by rw [List.map_cons, h1], fun q hq => ?_⟩
              rcases List.mem_cons.mp hq with rfl | hq
              · exact hd
              · exact h2 q hq
            · cases e
      obtain ⟨k1, k2⟩ := key l ps hk
      unfold okSort at ok
      rw [Bool.and_eq_true, Bool.or_eq_true] at ok
      obtain ⟨o1, o2⟩ := ok
      refine ⟨ps, k1, k2, ?_, ?_, ?_⟩
      · intro d hd d' hd'
        obtain ⟨p, hp, rfl⟩ := List.mem_map.mp hd
        obtain ⟨q, hq, rfl⟩ := List.mem_map.mp hd'
        exact fits_alike _ _ _ (List.all_eq_true.mp o1 p hp) (List.all_eq_true.mp o1 q hq)
      · rcases o2 with o2 | o2
        · left
          intro d hd
          obtain ⟨p, hp, rfl⟩ := List.mem_map.mp hd
          have := List.all_eq_true.mp o2 p hp
          cases e : p.2 with
          | tuple xs => exact ⟨xs, rfl⟩
          | _ => rw [e] at this; cases this
        · right
          intro d hd
          obtain ⟨p, hp, rfl⟩ := List.mem_map.mp hd
          have := List.all_eq_true.mp o2 p hp
          constructor
          · intro e; rw [e] at this; cases this
          · intro xs e; rw [e] at this; cases this
      · have := EVS.mergeSort_isrt (le := leKD) leKD_trans leKD_total ps
        exact congrArg _ this.symm
    · cases h
def ltO : Option PyData → Option PyData → S → R D
  | some p, some q, s => if PySem.W.alike p q = true ∧ notNone p = true then .ok (.bl (PySem.W.dataLt p q)) s else .no
  | _, _, _ => .no
where notNone : PyData → Bool
  | .none => false
  | _ => true
def dLt : D → D → S → R D
  | .int i, .int j, s => .ok (.bl (decide (i < j))) s
  | x, y, s => ltO (toPy s 16 x) (toPy s 16 y) s
section
variable {X : Cx} {g : Cfg} {E : XK} {W : WX}
theorem o_lt (A : At X g W) : OpR X (compareOp .Lt) (ro g dLt) := by
  intro pins s σ H x y v u Q I rx ry ⟨E, ι, dx, dy, st, R, qx, qy, q⟩
  have hu := A.un
  have gen : tRe g E (ltO (toPy st 16 dx) (toPy st 16 dy) st) H ι Q → wpAny (model X.prog X.w) X.A (compareOp .Lt v u) (EP X pins σ Q) X.xe s := fun q => by
    cases ex : toPy st 16 dx with
    | none => rw [ex] at q; exact q.elim
    | some p =>
      cases ey : toPy st 16 dy with
      | none => rw [ex, ey] at q; exact q.elim
      | some r =>
        rw [ex, ey] at q
        obtain ⟨⟨h1, h2⟩, q⟩ := tR.ite q
        obtain ⟨as, r1⟩ := Dp.reads I p x v (by rw [A.K]; exact toPy_dp R 16 _ _ _ qx ex) rx
        obtain ⟨bs, r2⟩ := Dp.reads I r y u (by rw [A.K]; exact toPy_dp R 16 _ _ _ qy ey) ry
        have hp := (toPy_shape 16 _ _ ex).2
        refine PySem.W.rcLt_alike p r X.A s v u as bs r1 r2 h1 (fun z => by rw [z] at h2; cases h2) ?_ X.prog X.w X.xe (EP X pins σ Q) ⟨.bl _, H, I, rfl, tR.of q R (.bl _)⟩
        have : min p.depth r.depth ≤ 16 := Nat.le_trans (Nat.min_le_left _ _) hp
        omega
  cases qx with
  | int i =>
    cases qy with
    | int j => exact op_lt pins s σ H _ _ v u Q I rx ry ⟨_, _, rfl, rfl, tR.of q R (.bl _)⟩
    | _ => exact gen q
  | _ => exact gen q
/-- the ints of a tuple -/
def intOf : D → Option Int
  | .int i => some i
  | _ => none
theorem RVs.ints {K : PySem.W.Frag} {H : Hp} {ι : List Addr} : ∀ {l : List D} {xs : List V} {is : List Int}, RVs K H ι l xs → allO (l.map intOf) = some is → xs = is.map V.int
  | _, _, _, .nil, e => by cases e; rfl
  | d :: l, _, is, .cons h hs, e => by
    rw [List.map_cons] at e
    cases h with
    | int i =>
      unfold intOf allO at e
      split at e
      · rename_i r hr
        cases e
        rw [RVs.ints hs hr]
        rfl
      · cases e
    | _ => cases e
def leAt : List Int → List Int → Bool
  | [], _ => true
  | _ :: _, [] => false
  | x :: xs, y :: ys => if x = y then leAt xs ys else decide (x ≤ y)
theorem leAt_go : ∀ (k : Nat) (i : Nat) (ns ms : List Int), min ns.length ms.length = i + k → Ob.lexAt (fun j => decide (ns.getD j 0 = ms.getD j 0)) (fun j => decide (ns.getD j 0 ≤ ms.getD j 0)) (decide (ns.length ≤ ms.length)) i k = leAt (ns.drop i) (ms.drop i)
  | 0, i, ns, ms, h => by
    rw [Ob.lexAt_zero]
    by_cases hl : ns.length ≤ ms.length
    · rw [decide_eq_true hl, List.drop_of_length_le (by omega)]; rfl
    · rw [decide_eq_false hl, List.drop_of_length_le (l := ms) (by omega)]
      cases hd : ns.drop i with
      | nil => have := List.drop_eq_nil_iff.mp hd; omega
      | cons x xs => rfl
  | k + 1, i, ns, ms, h => by
    have h1 : i < ns.length := by omega
    have h2 : i < ms.length := by omega
    rw [Ob.lexAt_succ, List.drop_eq_getElem_cons h1, List.drop_eq_getElem_cons h2, leAt_go k (i + 1) ns ms (by omega)]
    have e1 : ns.getD i 0 = ns[i] := by simp [List.getD, h1]
    have e2 : ms.getD i 0 = ms[i] := by simp [List.getD, h2]
    simp only [e1, e2]
    show _ = if ns[i] = ms[i] then leAt _ _ else _
    by_cases hc : ns[i] = ms[i]
    · simp [hc]
    · simp [hc]
def leO (s : S) : Option (List Int) → Option (List Int) → R D
  | some p, some q => .ok (.bl (leAt p q)) s
  | _, _ => .no
def dLe : D → D → S → R D
  | .int i, .int j, s => .ok (.bl (decide (i ≤ j))) s
  | .tup l, .tup m, s => leO s (allO (l.map intOf)) (allO (m.map intOf))
  | _, _, _ => .no
theorem o_le (A : At X g W) : OpR X (compareOp .LtE) (ro g dLe) := by
  intro pins s σ H x y v u Q I rx ry ⟨E, ι, dx, dy, st, R, qx, qy, q⟩
  have hu := A.un
  cases qx with
  | int i =>
    cases qy with
    | int j => exact op_le pins s σ H _ _ v u Q I rx ry ⟨_, _, rfl, rfl, tR.of q R (.bl _)⟩
    | _ => exact q.elim
  | @tup a l xs h1 h2 =>
    cases qy with
    | @tup b m ys h3 h4 =>
      change tRe g E (leO st (allO (l.map intOf)) (allO (m.map intOf))) H ι Q at q
      cases e1 : allO (l.map intOf) with
      | none => rw [e1] at q; exact q.elim
      | some ns =>
        cases e2 : allO (m.map intOf) with
        | none => rw [e1, e2] at q; exact q.elim
        | some ms =>
          rw [e1, e2] at q
          rw [RVs.ints h2 e1] at h1
          rw [RVs.ints h4 e2] at h3
          refine op_leT (by omega) pins s σ H _ _ v u Q I rx ry ⟨a, b, ns, ms, rfl, rfl, by rw [A.K]; exact h1, by rw [A.K]; exact h3, ?_⟩
          rw [leAt_go _ 0 ns ms (by omega)]
          exact tR.of q R (.bl _)
    | _ => exact q.elim
  | _ => cases qy <;> exact q.elim
theorem ObjOk.has {P : Program} {w : World} {H : Hp} {h : Heap} {a : Addr} {o : HO} (x : ObjOk P w H h a o) : ∃ u, h.get? a = some u := by
  cases o with
  | lst xs => obtain ⟨_, _, _, _, e⟩ := x; exact ⟨_, e⟩
  | tup xs => obtain ⟨_, _, _, u, e, _⟩ := x; exact ⟨u, e⟩
  | dK kvs => obtain ⟨_, _, _, _, u, _, _, e, _⟩ := x; exact ⟨u, e⟩
  | dT kvs => obtain ⟨_, _, _, _, u, _, _, e, _⟩ := x; exact ⟨u, e⟩
  | set S n => obtain ⟨u, _, _, _, e, _⟩ := x; exact ⟨u, e⟩
  | ins C dx fs => obtain ⟨_, _, _, e, _⟩ := x; exact ⟨_, e⟩
  | own y => exact x
  | xd fs => obtain ⟨_, ⟨u, _, _, e, _⟩, _⟩ := x; exact ⟨u, e⟩
  | rng lo hi => obtain ⟨_, _, _, e⟩ := x; exact ⟨_, e⟩
  | frz ob u => exact ⟨_, x.1⟩
  | tbl ps => exact ⟨_, x⟩
  | met f y => exact ⟨_, x⟩
  | ext φ => exact x.2.1
theorem HOk.none {P : Program} {w : World} {H : Hp} {h : Heap} (x : HOk P w H h) {a : Addr} (e : h.get? a = none) : H a = none := by
  cases q : H a with
  | none => rfl
  | some u =>
    obtain ⟨o, ho⟩ := ObjOk.has (x a u q)
    rw [e] at ho; cases ho
/-- the values of these, whatever they stand for -/
theorem each_rvs {K : PySem.W.Frag} {H : Hp} {ι : List Addr} : ∀ {out : List Value} {ps : List KD}, PySem.W.EachIs (fun v (b : KD) => ∃ x, RelV x v ∧ RV K H ι b.1 x) out ps → ∃ xs, Vals xs out ∧ RVs K H ι (ps.map (·.1)) xs
  | _, _, .nil => ⟨[], .nil, .nil⟩
  | _, _, .cons ⟨x, h1, h2⟩ t => by
    obtain ⟨xs, k1, k2⟩ := each_rvs t
    exact ⟨x :: xs, .cons h1 k1, .cons h2 k2⟩
theorem rvs_each {K : PySem.W.Frag} {H : Hp} {ι : List Addr} : ∀ {us : List Value} {ps : List KD} {xs : List V}, Vals xs us → RVs K H ι (ps.map (·.1)) xs → PySem.W.EachIs (fun v (b : KD) => ∃ x, RelV x v ∧ RV K H ι b.1 x) us ps
  | _, [], _, r, q => by
    cases q; cases r; exact .nil
  | _, p :: ps, _, r, q => by
    cases q with
    | cons q1 q2 => cases r with
      | cons r1 r2 => exact .cons ⟨_, r1, q1⟩ (rvs_each r2 q2)
theorem rvs_reads {pins : List (Addr × Obj)} {s : Shared} {σ : L2.St} {H : Hp} {ι : List Addr} {st : S} (I : Inv X pins σ H s) (A : At X g W) (R : RS g.K g.T H ι st) : ∀ {us : List Value} {ps : List KD} {xs : List V}, Vals xs us → RVs g.K H ι (ps.map (·.1)) xs → (∀ p ∈ ps, toPy st 16 p.1 = some p.2) →
    PySem.W.EachIs (fun v (b : KD) => ∃ as, Reads s.heap v b.2 as) us ps
  | _, [], _, r, q, _ => by
    cases q; cases r; exact .nil
  | _, p :: ps, _, r, q, h => by
    cases q with
    | cons q1 q2 => cases r with
      | cons r1 r2 => exact .cons (Dp.reads I p.2 _ _ (by rw [A.K]; exact toPy_dp R 16 _ _ _ q1 (h p (List.mem_cons_self ..))) r1) (rvs_reads I A R r2 q2 fun q hq => h q (List.mem_cons_of_mem _ hq))
def srtL (l : List D) (s : S) : R D := match srt s l with
  | some out => newL out s
  | none => .no
/-- a new list is laid, whatever was drawn -/
theorem laid_new {pins : List (Addr × Obj)} {s s' : Shared} {σ : L2.St} {H : Hp} {p : Addr} {xs : List V} {out : List Value} {c : Nat} (I : Inv X pins σ H s) (k : ∀ b o, s.heap.get? b = some o → s'.heap.get? b = some o) (hg : s'.gens = s.gens) (ho : s'.os = s.os) (hn : s.heap.get? p = none)
    (hp : s'.heap.get? p = some (seqObj "list" out.toArray c)) (rv : Vals xs out) (hz : out.length ≤ sizeLine) : H p = none ∧ Inv X pins σ (upd H p (.lst xs)) s' := by
  have hp0 := HOk.none I.hok hn
  exact ⟨hp0, I.call' (ch := []) ho (Un.laidN k hn hp0) (I.hok.laidN k hp0 ⟨by rw [rv.length]; exact hz, out, c, rv, hp⟩) (by rw [hg]; exact I.bare) fun _ z => nomatch z⟩
/-- what is gathered, sorted: in whatever order it comes -/
theorem srt_ok {pins : List (Addr × Obj)} {s : Shared} {σ : L2.St} {H : Hp} {ι : List Addr} {st : S} {r : Addr} {l : List D} {Q : VK} {E' : Value → Shared → Prop} (I : Inv X pins σ H s) (A : At X g W) (R : RS g.K g.T H ι st)
    (col : EVS.Gath X.prog X.w s r (fun us => ∃ l' xs, Vals xs us ∧ RVs g.K H ι l' xs ∧ us.length ≤ sizeLine ∧ srt st l' = srt st l))
    (q : tRe g E (srtL l st) H ι Q) : wpAny (model X.prog X.w) X.A (call (.builtin "sorted") [.ref r]) (EP X pins σ Q) E' s := by
  unfold srtL at q
  cases hs : srt st l with
  | none => rw [hs] at q; exact q.elim
  | some out =>
    rw [hs] at q col
    simp only at q
    have hu := A.un
    refine EVS.sorted_gen (enc := fun p : KD => p.2) (R := fun v (b : KD) => ∃ x, RelV x v ∧ RV g.K H ι b.1 x)
      (P := fun us ps => (∃ xs, Vals xs us ∧ RVs g.K H ι (ps.map (·.1)) xs) ∧ us.length ≤ sizeLine ∧ (∀ p ∈ ps, toPy st 16 p.1 = some p.2) ∧ PySem.W.AllAlike (ps.map (·.2)) ∧ EVS.Sort1 (ps.map (·.2)) ∧ out = (ps.mergeSort (PySem.W.dataLe false (fun q : KD => q.2))).map (·.1))
      (fun A' E2 Q2 hh h2 => col A' E2 Q2 hh fun s' us k g' o ⟨l', xs, rv, hr, hz, e⟩ => h2 s' us k g' o ?_) (I.ok.hd A.calm) (fun us ps ⟨⟨xs, rv, hr⟩, hz, e2, e3, e4, _⟩ => ?_) fun s' D us ps out' c ⟨_, hz, e2, e3, e4, e5⟩ k hg ho hn hD eo => ?_
    · obtain ⟨ps, e1, e2, e3, e4, e5⟩ := srt_spec e
      exact ⟨ps, ⟨xs, rv, by rw [e1]; exact hr⟩, hz, e2, e3, e4, e5⟩
    · have el := rvs_each rv hr
      refine ⟨el, rvs_reads I A R rv hr e2, e3, e4, by rw [← el.length]; exact hz, fun p hp => ?_⟩
      have := (toPy_shape 16 _ _ (e2 p hp)).2
      show X.A.units + 2 + p.2.depth < cLine
      omega
    · obtain ⟨ys, k1, k2⟩ := each_rvs eo
      have hl : out'.length ≤ sizeLine := by
        rename_i hus
        obtain ⟨xs, rv, hr⟩ := hus
        rw [eo.length, List.length_mergeSort, ← (rvs_each rv hr).length]
        exact hz
      obtain ⟨hD0, J⟩ := laid_new I k hg ho hn hD k1 hl
      rw [e5] at q
      exact ⟨.ref D, _, J, rfl, newL_ok R k2 q D hD0⟩
def seqO (f : List D → S → R D) (s : S) : Option (List D) → R D
  | some l => f l s
  | none => .no
def bSrt : List D → S → R D
  | [.tup l], s => srtL l s
  | [.lst r], s => seqO srtL s (s.seq r)
  | _, _ => .no
theorem c_srt (A : At X g W) : CallR X (.builtin "sorted") (rc g bSrt) := by
  intro pins s σ H xs us Q I r ⟨E, ι, ds, st, R, rv, q⟩
  unfold bSrt at q
  split at q
  · cases rv with
    | cons r1 r2 =>
      cases r2
      obtain ⟨u, rfl, ru⟩ := vals1 r
      cases r1 with
      | @tup a l ys h1 h2 =>
        cases ru
        obtain ⟨its, rv, p, hz⟩ := I.tuple (by rw [A.K]; exact h1)
        have hz' : its.length ≤ sizeLine := by rw [← rv.length]; exact hz
        exact srt_ok I A R (fun A' E2 Q2 hh h2' => EVS.gath_tup p hz' A' E2 Q2 hh fun s' us k g' o e => h2' s' us k g' o (by subst e; exact ⟨_, ys, rv, h2, hz', rfl⟩)) q
  · rename_i r'
    cases rv with
    | cons r1 r2 =>
      cases r2
      obtain ⟨u, rfl, ru⟩ := vals1 r
      cases r1 with
      | @lst _ a h1 =>
        cases ru
        unfold seqO at q
        cases hl : st.seq r' with
        | none => rw [hl] at q; exact q.elim
        | some l =>
          rw [hl] at q
          obtain ⟨ys, hx, h2⟩ := R.seq h1 hl
          obtain ⟨its, rv, p, hz⟩ := I.list (by rw [A.K]; exact hx)
          have hz' : its.length ≤ sizeLine := by rw [← rv.length]; exact hz
          exact srt_ok I A R (fun A' E2 Q2 hh h2' => EVS.gath_list p.isList hz' A' E2 Q2 hh fun s' us k g' o e => h2' s' us k g' o (by subst e; exact ⟨l, ys, rv, h2, hz', rfl⟩)) q
  · exact q.elim
end
end EV
namespace EVC
open L2 PySem PySem.Spec PyProof.Rows
abbrev Sl := L2.St
/-- one turn of a clause, act at its end -/
def oneTurn (C : Expr) (k : Nat) (tg iter : Expr) (ifs : List Expr) (it acc : Value) (env : Env) (act : Sem Unit) : Sem PySem.Fin := do
  standAt iter.pos
  match ← pyNext it with
  | none => pure (.done .next)
  | some v =>
    letOwnedTupleGo tg it v
    assign tg env v
    let mut ok := true
    for c in ifs do
      if ok then ok ← isTrue c env (eval c env)
    if ok then
      act
    again (.compLoop C k it acc env)
/-- its loop is run in place -/
structure Here (C : Expr) : Prop where
  loop : ∀ (P : Program) (w : World) (k : Nat) (it acc : Value) (env : Env), (model P w).den (.compLoop C k it acc env) = (compTurn C k it acc env).onRaise (fun x => do noteFrame x env; theTreesLotGoes x)
  start : ∀ (P : Program) (w : World) (k : Nat) (it acc : Value) (env : Env), (model P w).den (.compStart C k it acc env) = (compStart C k it acc env).onRaise (fun x => do noteFrame x env; standAt theWindowsPlace)
  under : ∀ (A : Around) (k : Nat) (it acc : Value) (env : Env), A.under (.compLoop C k it acc env) = A
  under0 : ∀ (A : Around) (k : Nat) (it acc : Value) (env : Env), A.under (.compStart C k it acc env) = A
  quiet : ∀ (k : Nat) (it acc : Value) (env : Env), (Code.compLoop C k it acc env).quiet = true
theorem here_dict {k v : Expr} {gens : List Comprehension} {scope : Scope} {pos : Pos} : Here (.DictComp k v gens scope pos) := ⟨fun _ _ _ _ _ _ => rfl, fun _ _ _ _ _ _ => rfl, fun _ _ _ _ _ => rfl, fun _ _ _ _ _ => rfl, fun _ _ _ _ => rfl⟩
theorem here_list {elt : Expr} {gens : List Comprehension} {scope : Scope} {pos : Pos} : Here (.ListComp elt gens scope pos) := ⟨fun _ _ _ _ _ _ => rfl, fun _ _ _ _ _ _ => rfl, fun _ _ _ _ _ => rfl, fun _ _ _ _ _ => rfl, fun _ _ _ _ => rfl⟩
abbrev NoX : Value → Shared → Prop := fun _ _ => False
section
variable {P : Program} {w : World} {A : Around} {R : Result → Shared → Prop} {s : Shared} {C tg iter : Expr} {ifs : List Expr} {k : Nat} {it acc : Value} {env : Env} {act : Sem Unit}
/-- the tests of a clause -/
abbrev testsOf (ifs : List Expr) (env : Env) : Sem Bool := forIn ifs true fun c r => if r = true then do let ok ← isTrue c env (eval c env); pure (ForInStep.yield ok) else pure (ForInStep.yield r)
theorem loopC (hC : Here C) (heq : compTurn C k it acc env = oneTurn C k tg iter ifs it acc env act) (J : Nat → Shared → Prop)
    (turn : ∀ n s, J n s → wpAny (model P w) A (pyNext it) (fun r s1 => match r with
      | none => R (.ok .next) s1
      | some v => wpAny (model P w) A (letOwnedTupleGo tg it v) (fun _ s2 => wpAny (model P w) A (assign tg env v) (fun _ s3 => wpAny (model P w) A (testsOf ifs env) (fun ok s4 =>
          if ok = true then wpAny (model P w) A act (fun _ s5 => ∃ m, m < n ∧ J m s5) NoX s4 else ∃ m, m < n ∧ J m s4) NoX s3) NoX s2) NoX s1) NoX s)
    (n : Nat) (h : J n s) : codeAny (model P w) A (.compLoop C k it acc env) R s := by
  refine codeAny_loop (hC.quiet _ _ _ _) J (fun n s hJ => ?_) n h
  rw [hC.under, hC.loop]
  refine wpAny_noted ?_
  rw [heq]
  unfold oneTurn
  refine wpAny_bind (wpAny_standAt (wpAny_bind (wpAny_mono (turn n s hJ) (fun r s1 h1 => ?_) fun _ _ z => z.elim)))
  cases r with
  | none => exact wpAny_pure h1
  | some v =>
    refine wpAny_bind (wpAny_mono h1 (fun _ s2 h2 => ?_) fun _ _ z => z.elim)
    refine wpAny_bind (wpAny_mono h2 (fun _ s3 h3 => wpAny_bind (wpAny_mono h3 (fun ok s4 h4 => ?_) fun _ _ z => z.elim)) fun _ _ z => z.elim)
    cases ok with
    | false => exact wpAny_pure (And.intro rfl h4)
    | true => exact wpAny_bind (wpAny_mono h4 (fun _ s5 h5 => wpAny_pure (And.intro rfl h5)) fun _ _ z => z.elim)
/-- a clause begins -/
theorem startC (hC : Here C) (hg : ((clausesOf C)[k]?).elim false (fun c => c.is_async != 0) = false) (h0 : codeAny (model P w) A (.compLoop C k it acc env) R s)
    (h : wpAny (model P w) A (pyIter it) (fun it' s' => codeAny (model P w) A (.compLoop C k it' acc env) R s') NoX s) : codeAny (model P w) A (.compStart C k it acc env) R s := by
  refine codeAny_of_tree ?_
  rw [hC.under0, hC.start]
  refine wpAny_notedAt ?_
  unfold compStart
  rw [if_neg (by rw [hg]; exact Bool.false_ne_true)]
  have go : ∀ s0 : Shared, s0 = s → wpAny (model P w) A (pyIter it >>= fun v => again (.compLoop C k v acc env)) (fun fin s' => match fin with | .done f => R (.ok f) s' | .again c' => c'.quiet = true ∧ codeAny (model P w) A c' R s') (notedBy (model P w) A env fun e s' => R (.error e) s') s0 := fun s0 e => by
    subst e
    exact wpAny_bind (wpAny_mono h (fun v s' h' => wpAny_pure (And.intro (hC.quiet _ _ _ _) h')) fun _ _ z => z.elim)
  show wpAny (model P w) A (ask >>= _) _ _ s
  refine wpAny_bind (wpAny_askSetting (wpAny_ite ?_))
  split
  · first
      | exact wpAny_bind (wpAny_pure (wpAny_pure (And.intro (hC.quiet _ _ _ _) h0)))
      | exact wpAny_pure (And.intro (hC.quiet _ _ _ _) h0)
  · cases hc : (clausesOf C)[k]? with
    | none =>
      first
        | exact wpAny_bind (wpAny_rule (go _ rfl))
        | (refine wpAny_bind (wpAny_rule ?_); exact go _ rfl)
    | some c =>
      refine wpAny_bind (wpAny_rule ?_)
      show wpAny (model P w) A (standAt c.iter.pos >>= fun _ => _) _ _ s
      exact wpAny_bind (wpAny_standAt (go _ rfl))
end
/-- an act keeps the slots beside vs -/
structure PAct (X : Cx) (vs : List Nat) (act : Sem Unit) (t : Sl → Hp → (Hp → Prop) → Prop) : Prop where
  run : ∀ (pins : List (Addr × Obj)) (s : Shared) (σ : Sl) (H : Hp) (Nx : Hp → Prop), Inv X pins σ H s → t σ H Nx →
    wpAny (model X.prog X.w) X.A act (fun _ s' => ∃ σ' H', Inv X pins σ' H' s' ∧ σ'.length = σ.length ∧ (∀ (j : Nat) v, j ∉ vs → σ[j]? = some (some v) → σ'[j]? = some (some v)) ∧ Nx H') X.xe s
/-- what a loop of a clause wants -/
def tLoop (J : It) (g : TG) (tt : TT) (ta : Sl → Hp → (Hp → Prop) → Prop) (vs : List Nat) (σ : Sl) (Z : Hp → Prop) (H : Hp) : Prop := ∃ W : Nat → Nat → Hp → Prop, (∃ m, W 0 m H) ∧ ∀ i m H, W i m H →
  (J.stop i H ∧ Z H) ∨ (J.go i H ∧ ∃ Nx : Hp → Prop, (∀ H', Nx H' → ∃ m', m' < m ∧ W (i + 1) m' H') ∧ ∀ x H', J.yld i H x H' → g x (wipe σ vs) H' fun σ2 H2 => wipe σ2 vs = wipe σ vs ∧ tt σ2 H2 fun b H3 => if b = true then ta σ2 H3 Nx else Nx H3)
section
variable {Y : Cx} {pins : List (Addr × Obj)} {fp : List Addr} {J : It} {it : Addr} {tn : Nat → Heap → Prop} {C tg iter : Expr} {ifs : List Expr} {k : Nat} {acc : Value} {act : Sem Unit} {g : TG} {tt : TT} {ta : Sl → Hp → (Hp → Prop) → Prop} {vs vsI : List Nat} {σ : Sl} {Z : Hp → Prop} {R : Result → Shared → Prop}
theorem clause_loop (hC : Here C) (hx : Y.xe = NoX) (hc : Y.calm = true) (T : Turn Y.prog Y.w Y.K tg J fp it tn) (stat : ∀ {σ' : Sl} {H' : Hp} {s' : Shared}, Inv Y pins σ' H' s' → (∀ b ∈ fp, H' b = none) → ∀ b ∈ fp, FpOk Y pins H' b) (pg : PG Y tg g) (pt : PTs Y ifs tt) (pa : PAct Y vsI act ta)
    (hsub : ∀ j ∈ vsI, j ∈ vs) (heq : compTurn C k (.ref it) acc Y.env = oneTurn C k tg iter ifs (.ref it) acc Y.env act) (hR : ∀ s' H', Inv Y pins (wipe σ vs) H' s' → Z H' → R (.ok .next) s')
    {s : Shared} {H : Hp} (I : Inv Y pins (wipe σ vs) H s) (st : tn 0 s.heap) (n0 : ∀ b ∈ fp, H b = none) (h : tLoop J g tt ta vs σ Z H) : codeAny (model Y.prog Y.w) Y.A (.compLoop C k (.ref it) acc Y.env) R s := by
  obtain ⟨W, ⟨m0, w0⟩, turn⟩ := h
  have ne : ∀ {α : Type} {t : Sem α} {Q Q' : α → Shared → Prop} {s0 : Shared}, wpAny (model Y.prog Y.w) Y.A t Q Y.xe s0 → (∀ a s', Q a s' → Q' a s') → wpAny (model Y.prog Y.w) Y.A t Q' NoX s0 := fun {α t Q Q' s0} a b => by
    rw [hx] at a
    exact wpAny_mono a b fun _ _ z => z
  refine loopC hC heq (fun n s' => ∃ i H', Inv Y pins (wipe σ vs) H' s' ∧ tn i s'.heap ∧ (∀ b ∈ fp, H' b = none) ∧ W i n H') ?_ m0 ⟨0, H, I, st, n0, w0⟩
  rintro n u ⟨i, H1, I1, t1, n1, w1⟩
  rcases turn i n H1 w1 with ⟨stop, fin⟩ | ⟨go, Nx, hNx, step⟩
  · refine thnF (T.done Y rfl rfl rfl hc i pins u _ H1 (fun _ _ => False) I1 (stat I1 n1) t1 stop) fun r u2 ⟨er, I2⟩ => ?_
    subst er
    exact hR u2 H1 I2 fin
  · refine thnF (T.item Y rfl rfl rfl hc i pins u _ H1 (fun _ _ => False) I1 (stat I1 n1) t1 go) fun r u2 ⟨v, er, h2⟩ => ?_
    subst er
    refine thnF h2 fun _ u3 ⟨x, H3, I3, rx, yx, t3, n3⟩ => ?_
    have P3 := I3.pinned (stat I3 n3) (T.obj _ _ t3)
    refine ne (pg.run _ u3 _ H3 x v _ P3 rx (step x H3 yx)) fun _ u4 ⟨σ4, H4, I4, e4, q4⟩ => ?_
    refine ne (pt.run _ u4 σ4 H4 _ I4 q4) fun b u5 ⟨H5, I5, q5⟩ => ?_
    have back : ∀ {σ6 : Sl} {u6 : Shared} {H6 : Hp}, Inv Y (pins ++ pinsAt fp u3.heap) σ6 H6 u6 → σ6.length = σ4.length → (∀ (j : Nat) v, j ∉ vsI → σ4[j]? = some (some v) → σ6[j]? = some (some v)) → Nx H6 →
        ∃ m, m < n ∧ ∃ i H', Inv Y pins (wipe σ vs) H' u6 ∧ tn i u6.heap ∧ (∀ b ∈ fp, H' b = none) ∧ W i m H' := fun {σ6 u6 H6} I6 hl hk nx => by
      obtain ⟨m', hm, w'⟩ := hNx H6 nx
      have pin : ∀ b ∈ fp, ∀ o, u3.heap.get? b = some o → u6.heap.get? b = some o ∧ H6 b = none := fun b hb o e => by
        have z := I6.pin (b, o) (List.mem_append_right _ (List.mem_append_right _ (mem_pinsAt hb e)))
        exact ⟨z.1, z.2.1⟩
      have el : (wipe σ vs).length = σ6.length := by rw [hl, ← e4, wipe_length]
      refine ⟨m', hm, i + 1, H6, I6.unpinned.weak el fun j v e => ?_, T.keep _ _ _ t3 fun b hb o e => (pin b hb o e).1, fun b hb => ?_, w'⟩
      · rw [← e4] at e
        obtain ⟨e1, e2⟩ := wipe_some e
        exact hk j v (fun z => e2 (hsub j z)) e1
      · obtain ⟨o, e, _⟩ := T.obj _ _ t3 b hb
        exact (pin b hb o e).2
    cases b with
    | false =>
      simp only [Bool.false_eq_true, if_false] at q5 ⊢
      exact back I5 rfl (fun _ _ _ e => e) q5
    | true =>
      simp only [if_true] at q5 ⊢
      exact ne (pa.run _ u5 σ4 H5 Nx I5 q5) fun _ u6 ⟨σ6, H6, I6, l6, k6, nx⟩ => back I6 l6 k6 nx
/-- the second clause as an act -/
def innerAct (C : Expr) (i1 : Expr) (acc : Value) (env : Env) : Sem Unit := do
  let x ← eval i1 env
  standAt i1.pos
  let x ← foldedSetIterable i1 env x
  let _ ← runOwn (.compStart C 1 (← holding [x] (pyIter x)) acc env) env
def tInner (wi : TI) (g : TG) (tt : TT) (ta : Sl → Hp → (Hp → Prop) → Prop) (vs : List Nat) : Sl → Hp → (Hp → Prop) → Prop := fun σ H Nx => wi σ H fun J H1 => tLoop J g tt ta vs σ Nx H1
theorem act_inner {wi : TI} (hC : Here C) (hx : Y.xe = NoX) (hc : Y.calm = true) (hg : ((clausesOf C)[1]?).elim false (fun c => c.is_async != 0) = false) (hs : ∀ x, foldedSetIterable iter Y.env x = pure x)
    (hi : PI Y tg iter wi) (pg : PG Y tg g) (pt : PTs Y ifs tt) (pa : PAct Y [] act ta) (heq : ∀ it, compTurn C 1 it acc Y.env = oneTurn C 1 tg iter ifs it acc Y.env act) : PAct Y vs (innerAct C iter acc Y.env) (tInner wi g tt ta vs) := by
  refine ⟨fun pins s σ H Nx I h => ?_⟩
  have key := hi.run pins s σ H _ I h
  unfold innerAct
  refine wpAny_bind (wpAny_mono key (fun xv s1 hx1 => wpAny_bind (wpAny_standAt (wpAny_bind (wpAny_of_eq (hs xv) (wpAny_bind (wpAny_holding (wpAny_mono hx1 (fun itv s2 h2 => ?_) fun _ _ z => z))))))) fun _ _ z => z)
  obtain ⟨it, fp, tn, J, H2, e, I2, T, st2, f2, q⟩ := h2
  subst e
  have stat : ∀ {σ' : Sl} {H' : Hp} {s' : Shared}, Inv Y pins σ' H' s' → (∀ b ∈ fp, H' b = none) → ∀ b ∈ fp, FpOk Y pins H' b := fun _ hn b hb => ⟨hn b hb, (f2 b hb).2⟩
  have loop : codeAny (model Y.prog Y.w) Y.A (.compLoop C 1 (.ref it) acc Y.env) (fun r s' => match r with
      | .ok _ => ∃ H', Inv Y pins (wipe σ vs) H' s' ∧ Nx H'
      | .error _ => False) s2 :=
    clause_loop (iter := iter) (vsI := []) hC hx hc T stat pg pt pa (fun j z => by cases z) (heq _) (fun s' H' I' z => ⟨H', I', z⟩) (I2.weak (wipe_length _ _) fun j v e => (wipe_some e).1) st2 (fun b hb => (f2 b hb).1) q
  refine wpAny_bind (wpAny_runOwn ?_)
  rw [Around.mark_none]
  refine codeAny_mono (startC hC hg loop (T.self Y.A 0 _ _ _ st2 loop)) fun r s' hr => ?_
  cases r with
  | error e => exact hr.elim
  | ok f =>
    obtain ⟨H', I', nx⟩ := hr
    have fin : ∃ σ' H'', Inv Y pins σ' H'' s' ∧ σ'.length = σ.length ∧ (∀ (j : Nat) v, j ∉ vs → σ[j]? = some (some v) → σ'[j]? = some (some v)) ∧ Nx H'' := ⟨_, H', I', wipe_length _ _, fun j v hj e => by rw [wipe_out hj]; exact e, nx⟩
    first
      | exact wpAny_pure fin
      | exact wpAny_bind (wpAny_pure (wpAny_pure fin))
end
section
variable {X : Cx}
/-- a comprehension, from its first iterator to its end -/
theorem comp_run {pins : List (Addr × Obj)} {s : Shared} {σ : Sl} {H : Hp} {C tg iter : Expr} {ifs : List Expr} {gs : List Comprehension} {scope : Scope} {own : List (Str × Nat)} {pos' : Pos} {wi : TI} {g : TG} {tt : TT} {use : Option (Value → Sem Unit)} {Qf : Value → Shared → Prop} {Q : VK}
    {mk : Sem Value} {ob : Obj} {o0 : Addr → HO} {act : Value → Env → Sem Unit} {ta : Addr → Sl → Hp → (Hp → Prop) → Prop} {vsI : List Nat} (hC : Here C) (hcl : clausesOf C = ⟨tg, iter, ifs, 0⟩ :: gs)
    (hmk : ∀ {A : Around} {E : Value → Shared → Prop} {Q : Value → Shared → Prop} {s : Shared}, Q (.ref s.heap.objs.size) { s with heap := s.heap.push ob } → wpAny (model X.prog X.w) A mk Q E s)
    (hob : ∀ {H : Hp} {s : Shared} {σ : Sl} {pins : List (Addr × Obj)}, Inv X pins σ H s → ObjOk X.prog X.w (upd H s.heap.objs.size (o0 s.heap.objs.size)) (s.heap.push ob) s.heap.objs.size (o0 s.heap.objs.size))
    (heq : ∀ (it : Value) (D : Addr) (env : Env), compTurn C 0 it (.ref D) env = oneTurn C 0 tg iter ifs it (.ref D) env (act (.ref D) env)) (hsub : ∀ j ∈ vsI, j ∈ own.map (·.2))
    (hc : X.calm = true) (hN : X.N.Nodup) (I : Inv X pins σ H s) (hi : PI X tg iter wi) (ok : BlkOk X.N X.env.scope scope own)
    (hg : ∀ (s : Shared) (H : Hp) (c : Addr) (cl : List (Str × Addr)) (fp : List Addr), PG (X.blk s H scope (compEnvC scope cl c X.env) fp) tg g)
    (ht : ∀ (s : Shared) (H : Hp) (c : Addr) (cl : List (Str × Addr)) (fp : List Addr), PTs (X.blk s H scope (compEnvC scope cl c X.env) fp) ifs tt)
    (ha : ∀ (s : Shared) (H : Hp) (c : Addr) (cl : List (Str × Addr)) (fp : List Addr) (D : Addr), PAct (X.blk s H scope (compEnvC scope cl c X.env) fp) vsI (act (.ref D) (compEnvC scope cl c X.env)) (ta D)) (hs : ∀ x, foldedSetIterable iter X.env x = pure x)
    (h : wi σ H fun J H1 => ∀ D, H1 D = none → tLoop J g tt (ta D) (own.map (·.2)) σ (fun H' => Q (.ref D) H') (upd H1 D (o0 D)))
    (hRR : ∀ D c s' m H', Inv X pins σ H' s' → Q (.ref D) H' → s'.heap.Ns c m → FpOk X pins H' c → compPost (model X.prog X.w) X.A X.xe use Qf (.ref D) c (.ok .next) s') :
    wpAny (model X.prog X.w) X.A (comprehension C scope X.env pos' mk false (eval iter X.env) use) Qf X.xe s := by
  have hfree : ∀ y ∈ scope.names, y.2 = .free → ∃ c, X.env.cells.lookup y.1 = some c := fun y hy e => (ok.free y hy e).elim (fun k => I.ok.has _ (.inl k)) fun k => I.ok.has _ (.inr k)
  refine wpAny_comprehension_free (use := use) hcl hs (closure_ok hfree) ok.kind (fun y hy e => by rw [ok.uniq y hy, e]) (thn (hi.run pins s σ H _ I h) fun xv s1 hx => thn hx fun itv s2 h2 => ?_)
  obtain ⟨it, fp, tn, J, H2, e, I2, T, st2, f2, q⟩ := h2
  subst e
  refine hmk (newEnv_comp ?_)
  generalize hD : s2.heap.objs.size = D
  have w0 := q D (I2.hok.fresh (Nat.le_of_eq hD))
  generalize hs3 : ({ s2 with heap := s2.heap.push ob } : Shared) = s3
  have I3 : Inv X pins σ (upd H2 D (o0 D)) s3 := by
    rw [← hs3]
    refine I2.laid (t' := s2.toks) (fun b o e => Heap.get?_push_of_some _ e) (Nat.le_of_eq hD) ?_
    rw [← hD]
    exact hob I2
  have h3 : s3.heap = s2.heap.push ob := by rw [← hs3]
  have f3 : ∀ b ∈ fp, FpOk X pins (upd H2 D (o0 D)) b ∧ b < s3.heap.objs.size := fun b hb => by
    obtain ⟨o, e, _⟩ := T.obj _ _ st2 b hb
    have hlt := Heap.lt_size e
    have hne : b ≠ D := by rw [← hD]; exact Nat.ne_of_lt hlt
    exact ⟨⟨by rw [upd_ne hne]; exact (f2 b hb).1, (f2 b hb).2⟩, by rw [h3, Heap.size_push]; exact Nat.lt_succ_of_lt hlt⟩
  have st3 : tn 0 s3.heap := T.keep _ _ _ st2 fun b _ o e => by rw [h3]; exact Heap.get?_push_of_some _ e
  have I4 := block_start I3 ok hN f3
  generalize hcls : cellsFrom (s3.heap.objs.size + 1) scope.names (cloFrom X.env.cells scope.names []) = cls at I4
  have pg := hg s3 (upd H2 D (o0 D)) s3.heap.objs.size cls fp
  have pt := ht s3 (upd H2 D (o0 D)) s3.heap.objs.size cls fp
  have pa := ha s3 (upd H2 D (o0 D)) s3.heap.objs.size cls fp D
  show codeAny _ _ (.compStart C 0 (.ref it) (.ref D) (compEnvC scope cls s3.heap.objs.size X.env)) (compPost (model X.prog X.w) X.A X.xe use Qf (.ref D) s3.heap.objs.size) { s3 with heap := pushCells (s3.heap.push { cls := .type "dict", data := .dict #[] }) scope.names }
  have nfp : ∀ b ∈ fp, (upd H2 D (o0 D)) b = none := fun b hb => (f3 b hb).1.1
  generalize hce : compEnvC scope cls s3.heap.objs.size X.env = ce at I4 pg pt pa ⊢
  have cL : ce.locals = s3.heap.objs.size := by subst hce; rfl
  generalize hH3 : upd H2 D (o0 D) = H3 at I3 I4 pg pt pa w0 nfp f3
  generalize hs4 : ({ s3 with heap := pushCells (s3.heap.push { cls := .type "dict", data := .dict #[] }) scope.names } : Shared) = s4 at I4 ⊢
  have st4 : tn 0 s4.heap := T.keep _ _ _ st3 fun b _ o e => by rw [← hs4]; exact pushCells_keeps _ _ _ _ (Heap.get?_push_of_some _ e)
  have stat : ∀ {σ' : Sl} {H' : Hp} {s' : Shared}, Inv (X.blk s3 H3 scope ce fp) [] σ' H' s' → (∀ b ∈ fp, H' b = none) → ∀ b ∈ fp, FpOk (X.blk s3 H3 scope ce fp) [] H' b := fun {σ' H' s'} I' hn b hb =>
    ⟨hn b hb, (I'.ok.exf b hb).1, I'.ok.exfs b hb, .inl hb, fun x c e => (I'.ok.exf b hb).2 x c e, fun p hp => absurd (show p ∈ ([] : List (Addr × Obj)) ++ [] from hp) (by simp)⟩
  have loop : codeAny (model X.prog X.w) X.A (.compLoop C 0 (.ref it) (.ref D) ce) (compPost (model X.prog X.w) X.A X.xe use Qf (.ref D) s3.heap.objs.size) s4 := by
    refine clause_loop (Y := X.blk s3 H3 scope ce fp) (pins := []) (iter := iter) (R := compPost (model X.prog X.w) X.A X.xe use Qf (.ref D) s3.heap.objs.size) hC rfl hc T stat pg pt pa hsub (heq _ _ _) (fun s6 H5 I6 qq => ?_) I4 st4 nfp w0
    have I7 : Inv X pins σ H5 s6 := I3.call' (ch := fp) I6.os I6.base I6.hok I6.bare fun b hb => ⟨(f3 b hb).1.2.2.2.1, (f3 b hb).1.2.1, (f3 b hb).1.2.2.2.2.1, (f3 b hb).1.2.2.2.2.2⟩
    have nC : H5 s3.heap.objs.size = none := by
      rw [← cL]
      exact I6.free
    obtain ⟨m, hn, _⟩ := I6.loc
    have hn : s6.heap.Ns ce.locals m := hn
    rw [cL] at hn
    exact hRR D s3.heap.objs.size s6 m H5 I7 qq hn (I3.fpOk (Nat.le_refl _) nC)
  exact startC hC (by rw [hcl]; rfl) loop (T.self X.A 0 _ _ _ st4 loop)
/-- .. as a value -/
theorem comp_back {pins : List (Addr × Obj)} {σ : Sl} {Q : VK} : ∀ D c s' m H', Inv X pins σ H' s' → Q (.ref D) H' → s'.heap.Ns c m → FpOk X pins H' c → compPost (model X.prog X.w) X.A X.xe none (EP X pins σ Q) (.ref D) c (.ok .next) s' := fun D c s' m H' I' q hn f => ⟨m, hn, fun h'' sb => by
  obtain ⟨f0, f1, f2, f3, f4, f5⟩ := f
  exact ⟨.ref D, H', I'.turned (t' := s'.toks) (fun b o hb e => (sb.2 b hb).trans e) f0 f1 f3 f4 f5, rfl, q⟩⟩
end
end EVC
namespace EV
open L2 PySem PySem.Spec PyProof.Rows EVC
abbrev MAct := FT → En → Nat → S → R Unit
def inF (r : Nat) (q : Src) (m : MG) (t : MT) (act : MAct) : Nat → Nat → FT → En → S → R Unit
  | 0, _, _, _, _ => .no
  | n + 1, i, F, e, s => match q.at s i with
    | none => .no
    | some none => .ok () s
    | some (some d) => (m F e d s).bind fun e1 s0 => (t F e1 s0).bind fun b s1 => if b then (act F e1 r s1).bind fun _ s2 => inF r q m t act n (i + 1) F e s2 else inF r q m t act n (i + 1) F e s1
/-- the second clause -/
def aIn (it : MI) (m : MG) (t : MT) (act : MAct) (vs : List Nat) : MAct := fun F e r s => (it F e s).bind fun q s1 => inF r q m t act 100000 0 F (wipeE e vs) s1
def mComp (c0 : Cell) (mk : Nat → D) (it : MI) (m : MG) (t : MT) (act : MAct) (vs : List Nat) : ME := fun F e s => (it F e s).bind fun q s1 => (noEx (inF s1.n q m t act 100000 0 F (wipeE e vs) (s1.new c0))).bind fun _ s2 => .ok (mk s1.n) s2
/-- a deed that gives nothing -/
def tU (g : Cfg) (r : R Unit) (H : Hp) (ι : List Addr) (Nx : Hp → Prop) : Prop := tR g E0 (fun _ _ (_ _ : Unit) => True) (noEx r) H ι (fun _ H' => Nx H')
def tact (g : Cfg) (m : MAct) (D : Addr) : L2.St → Hp → (Hp → Prop) → Prop := fun σ H Nx => ∃ ι e s r, RS g.K g.T H ι s ∧ RE g.K H ι e σ ∧ ι[r]? = some D ∧ tU g (m g.F e r s) H ι Nx
section
variable {g : Cfg} {H H0 : Hp} {ι ι0 : List Addr} {s : S} {D : Addr} {Nx : Hp → Prop}
theorem tU.fw {r : R Unit} {H' : Hp} {ι' : List Addr} (f : Fw g.K H ι H' ι') (h : tU g r H ι Nx) : tU g r H' ι' Nx := tR.fw f h
theorem tU.bind {α β : Type} {Rl : Hp → List Addr → α → β → Prop} {r : R α} {f : α → S → R Unit} (h : tU g (r.bind f) H ι Nx) {Q' : β → Hp → Prop}
    (k : ∀ d s v H' ι', Fw g.K H ι H' ι' → RS g.K g.T H' ι' s → Rl H' ι' d v → tU g (f d s) H' ι' Nx → Q' v H') : tR g E0 Rl r H ι Q' := by
  cases r with
  | ok d s => exact fun v H2 ι2 f2 a b => k d s v H2 ι2 f2 a b (tU.fw f2 h)
  | ex x s => exact h.elim
  | no => exact h.elim
theorem tU.done (h : tU g (.ok () s) H ι Nx) (R : RS g.K g.T H ι s) : Nx H := h () H ι Fw.refl R trivial
/-- a deed, then the rest -/
theorem tU.seq {r : R Unit} {f : Unit → S → R Unit} (h : tU g (r.bind f) H ι Nx) {Nx' : Hp → Prop} (k : ∀ s H' ι', Fw g.K H ι H' ι' → RS g.K g.T H' ι' s → tU g (f () s) H' ι' Nx → Nx' H') : tU g r H ι Nx' := by
  cases r with
  | ok d s => exact fun v H2 ι2 f2 a b => k s H2 ι2 f2 a (tU.fw f2 h)
  | ex x s => exact h.elim
  | no => exact h.elim
def LpW (g : Cfg) (D : Addr) (r : Nat) (q : Src) (m : MG) (t : MT) (act : MAct) (e0 : En) (σ0 : L2.St) (H0 : Hp) (ι0 : List Addr) (Z : Hp → Prop) (i n : Nat) (H : Hp) : Prop :=
  ∃ ι s, Fw g.K H0 ι0 H ι ∧ RS g.K g.T H ι s ∧ RE g.K H ι e0 σ0 ∧ ι[r]? = some D ∧ tU g (inF r q m t act n i g.F e0 s) H ι Z
theorem in_sound {vs : List Nat} {q : Src} {J : It} {m : MG} {t : MT} {act : MAct} {r : Nat} {e : En} {σ : L2.St} {Z : Hp → Prop} (hq : SrcOk g H0 ι0 q J) (f : Fw g.K H0 ι0 H ι) (R : RS g.K g.T H ι s) (re : RE g.K H ι e σ) (hD : ι[r]? = some D)
    (h : tU g (inF r q m t act 100000 0 g.F (wipeE e vs) s) H ι Z) : tLoop J (gs g vs m) (tt g WN t) (tact g act D) vs σ Z H := by
  refine ⟨fun i n H => LpW g D r q m t act (wipeE e vs) (wipe σ vs) H0 ι0 Z i n H, ⟨100000, ι, s, f, R, re.wipe vs, hD, h⟩, ?_⟩
  rintro i n H3 ⟨ι3, s3, f3, R3, q3, d3, h3⟩
  cases n with
  | zero => exact h3.elim
  | succ n =>
    obtain ⟨stp, go⟩ := hq H3 ι3 s3 f3 R3 i
    unfold inF at h3
    cases ha : q.at s3 i with
    | none => simp only [ha] at h3; exact h3.elim
    | some o =>
      simp only [ha] at h3
      cases o with
      | none => exact .inl ⟨stp ha, h3.done R3⟩
      | some d =>
        simp only at h3
        obtain ⟨g1, g2⟩ := go d ha
        refine .inr ⟨g1, fun H' => ∃ n', n' < n + 1 ∧ LpW g D r q m t act (wipeE e vs) (wipe σ vs) H0 ι0 Z (i + 1) n' H', fun H' w => w, fun x H4 y => ?_⟩
        obtain ⟨f4, R4, rx⟩ := g2 x H4 y
        refine ⟨ι3, wipeE e vs, s3, d, R4, q3.fw f4, rx, tU.bind (tU.fw f4 h3) fun e1 s5 σ5 H5 ι5 f5 R5 q5 h5 => ⟨q5.2.trans wipe_wipe, ι5, e1, s5, R5, q5.1, tR.e0 (tU.bind h5 fun b s6 b' H6 ι6 f6 R6 eb h6 => ?_)⟩⟩
        subst eb
        have fg := (f4.trans f5).trans f6
        cases b with
        | false => exact ⟨n, Nat.lt_succ_self n, ι6, s6, f3.trans fg, R6, q3.fw fg, fg.at d3, h6⟩
        | true =>
          rw [if_pos rfl] at h6 ⊢
          refine ⟨ι6, e1, s6, r, R6, q5.1.fw f6, fg.at d3, h6.seq fun s7 H7 ι7 f7 R7 h7 => ?_⟩
          exact ⟨n, Nat.lt_succ_self n, ι7, s7, f3.trans (fg.trans f7), R7, q3.fw (fg.trans f7), (fg.trans f7).at d3, h7⟩
end
theorem PAct.imp {X : Cx} {vs : List Nat} {act : Sem Unit} {t t' : L2.St → Hp → (Hp → Prop) → Prop} (h : PAct X vs act t) (k : ∀ σ H Q, t' σ H Q → t σ H Q) : PAct X vs act t' := ⟨fun pins s σ H Q I q => h.run pins s σ H Q I (k σ H Q q)⟩
theorem act_in {Y : Cx} {g : Cfg} {C tg iter : PySem.Expr} {ifs : List PySem.Expr} {vs : List Nat} {wi : MI} {m : MG} {t : MT} {ma : MAct} {D : Addr} {act : Sem Unit} (hC : Here C) (hx : Y.xe = NoX) (hc : Y.calm = true) (hg : ((clausesOf C)[1]?).elim false (fun c => c.is_async != 0) = false) (hs : ∀ x, foldedSetIterable iter Y.env x = pure x)
    (hi : PI Y tg iter (ti g WN wi)) (pg : PG Y tg (gs g vs m)) (pt : PTs Y ifs (tt g WN t)) (pa : PAct Y [] act (tact g ma D)) (heq : ∀ it, compTurn C 1 it (.ref D) Y.env = oneTurn C 1 tg iter ifs it (.ref D) Y.env act) :
    PAct Y vs (innerAct C iter (.ref D) Y.env) (tact g (aIn wi m t ma vs) D) :=
  PAct.imp (act_inner (wi := ti g WN wi) hC hx hc hg hs hi pg pt pa heq) fun σ H Nx ⟨ι, e, s, r, R, q, hD, h⟩ => ⟨ι, e, s, R, q, tR.e0 (tU.bind h fun sr s1 J H1 ι1 f1 R1 r1 h1 => in_sound r1 Fw.refl R1 (q.fw f1) (f1.at hD) h1)⟩
section
variable {X : Cx} {g : Cfg} {W : WX}
/-- as a value -/
theorem e_comp (A : At X g W) {C tg iter : PySem.Expr} {ifs : List PySem.Expr} {gs' : List Comprehension} {scope : Scope} {own : List (Str × Nat)} {pos' : Pos} {wi : MI} {m : MG} {t : MT} {ma : MAct} {mk : Sem Value} {ob : Obj} {o0 : Addr → HO} {act : Value → Env → Sem Unit} {vsI : List Nat} {c0 : Cell} {mkD : Nat → D}
    (hC : Here C) (hcl : clausesOf C = ⟨tg, iter, ifs, 0⟩ :: gs') (hev : eval C X.env = comprehension C scope X.env pos' mk false (eval iter X.env))
    (hmk : ∀ {A : Around} {E : Value → Shared → Prop} {Q : Value → Shared → Prop} {s : Shared}, Q (.ref s.heap.objs.size) { s with heap := s.heap.push ob } → wpAny (model X.prog X.w) A mk Q E s)
    (hob : ∀ {H : Hp} {s : Shared} {σ : L2.St} {pins : List (Addr × Obj)}, Inv X pins σ H s → ObjOk X.prog X.w (upd H s.heap.objs.size (o0 s.heap.objs.size)) (s.heap.push ob) s.heap.objs.size (o0 s.heap.objs.size))
    (hc0 : ∀ {H : Hp} {ι : List Addr} {D : Addr}, H D = some (o0 D) → CellOk X.w g.K H ι c0 D) (hrv : ∀ {H : Hp} {ι : List Addr} {r : Nat} {a : Addr}, ι[r]? = some a → RV g.K H ι (mkD r) (.ref a))
    (heq : ∀ (it : Value) (D : Addr) (env : Env), compTurn C 0 it (.ref D) env = oneTurn C 0 tg iter ifs it (.ref D) env (act (.ref D) env)) (hsub : ∀ j ∈ vsI, j ∈ own.map (·.2))
    (hN : X.N.Nodup) (hi : PI X tg iter (ti g W wi)) (ok : BlkOk X.N X.env.scope scope own)
    (hg : ∀ (s : Shared) (H : Hp) (c : Addr) (cl : List (Str × Addr)) (fp : List Addr), PG (X.blk s H scope (compEnvC scope cl c X.env) fp) tg (gs g (own.map (·.2)) m))
    (ht : ∀ (s : Shared) (H : Hp) (c : Addr) (cl : List (Str × Addr)) (fp : List Addr), PTs (X.blk s H scope (compEnvC scope cl c X.env) fp) ifs (tt g WN t))
    (ha : ∀ (s : Shared) (H : Hp) (c : Addr) (cl : List (Str × Addr)) (fp : List Addr) (D : Addr), PAct (X.blk s H scope (compEnvC scope cl c X.env) fp) vsI (act (.ref D) (compEnvC scope cl c X.env)) (tact g ma D)) (hs : ∀ x, foldedSetIterable iter X.env x = pure x) :
    PE X C (te g W (mComp c0 mkD wi m t ma (own.map (·.2)))) := by
  refine ⟨fun pins s σ H Q I h => ?_⟩
  rw [hev]
  refine comp_run hC hcl hmk hob heq hsub A.calm hN I hi ok hg ht ha hs ?_ comp_back
  obtain ⟨ι, e, st, R, q, h⟩ := h
  refine ⟨ι, e, st, R, q, tR.bind h fun sr s1 J H1 ι1 _ f1 R1 r1 h1 D hD => ?_⟩
  have hcell : CellOk g.T.w g.K (upd H1 D (o0 D)) (ι1 ++ [D]) c0 D := by
    rw [← A.w]
    exact hc0 upd_same
  have fD := Fw.newA (K := g.K) (H := H1) (ι := ι1) (p := D) (o := o0 D) hD
  have R2 := R1.alloc hD hcell
  have hi2 : (ι1 ++ [D])[s1.n]? = some D := by rw [← R1.len]; simp
  refine in_sound (Z := fun H' => Q (.ref D) H') r1 fD R2 ((q.fw f1).fw fD) hi2 ?_
  have h2 := tR.fw fD h1
  revert h2
  cases hr : inF s1.n sr m t ma 100000 0 g.F (wipeE e (own.map (·.2))) (s1.new c0) with
  | ok u s2 => exact fun h2 v H3 ι3 f3 R3 _ => tR.of (tR.fw f3 h2) R3 (hrv (f3.at hi2))
  | ex x s2 => exact fun h2 => h2.elim
  | no => exact fun h2 => h2.elim
end
end EV
namespace EV
open L2 PySem PySem.Spec PyProof.Rows EVC
def intsOf : D → Option (List Int)
  | .tup l => allO (l.map intOf)
  | _ => none
def appS (r : Nat) (x : D) (s : S) : R Unit := match s.own r with
  | some l => if l.length < 100000 then .ok () (s.put r (.lst (l ++ [x]))) else .no
  | none => .no
def aApp (el : ME) : MAct := fun F e r s => (el F e s).bind fun x s1 => appS r x s1
theorem ints_allO : ∀ ks : List Int, allO ((ks.map D.int).map intOf) = some ks
  | [] => rfl
  | k :: ks => by
    have := ints_allO ks
    show allO (some k :: (ks.map D.int).map intOf) = _
    unfold allO
    rw [this]
theorem tups_allO : ∀ ks : List (List Int), allO ((ks.map fun k => D.tup (k.map .int)).map intsOf) = some ks
  | [] => rfl
  | k :: ks => by
    have ih := tups_allO ks
    show allO (allO ((k.map EV.D.int).map intOf) :: (ks.map fun k => EV.D.tup (k.map .int)).map intsOf) = _
    rw [ints_allO]
    unfold allO
    rw [ih]
theorem setTO_P {P P' : Program} {w : World} {a : Addr} {L : List (Addr × List Int)} : SetTO P w a L = SetTO P' w a L := by
  unfold SetTO
  congr 1
  funext h
  exact propext ⟨fun x => ⟨x.ex⟩, fun x => ⟨x.ex⟩⟩
section
variable {X : Cx} {g : Cfg} {W : WX}
/-- the end of a list comprehension's turn -/
theorem act_app (A : At X g WN) (hx : X.xe = NoX) {elt : PySem.Expr} {el : ME} {D : Addr} (he : PE X elt (te g WN el)) : PAct X [] (do let _ ← call (.builtin "list.append") [.ref D, ← eval elt X.env]) (tact g (aApp el) D) := by
  refine ⟨fun pins s σ H Nx I ⟨ι, e, st, r, R, q, hD, h⟩ => ?_⟩
  refine wpAny_bind (thn (he.run pins s σ H (fun y H1 => ∃ ι1 st1 x, RS g.K g.T H1 ι1 st1 ∧ RV g.K H1 ι1 x y ∧ ι1[r]? = some D ∧ tU g (appS r x st1) H1 ι1 Nx) I ⟨ι, e, st, R, q, tR.e0 (tU.bind h fun x st1 y H1 ι1 f1 R1 r1 h1 => ⟨ι1, st1, x, R1, r1, f1.at hD, h1⟩)⟩) fun v s1 ⟨y, H1, I1, rv, ι1, st1, x, R1, r1, d1, h1⟩ => ?_)
  refine wpAny_bind ?_
  unfold appS at h1
  cases hc : st1.own r with
  | none => rw [hc] at h1; exact h1.elim
  | some l =>
    rw [hc] at h1
    simp only at h1
    split at h1
    · rename_i hl
      obtain ⟨xs, k1, k2⟩ := R1.own d1 hc
      have hg := S.own_get hc
      refine app_ok I1 k1 (by rw [← k2.length, sizeLine_eq]; omega) rv fun s2 I2 => wpAny_pure ⟨σ, _, I2, rfl, fun _ _ _ e => e, h1 () _ ι1 (Fw.put R1 hg rfl d1) (R1.write hg rfl d1 ⟨xs ++ [y], upd_same, ?_⟩) trivial⟩
      have f := Fw.put (o := .lst (xs ++ [y])) R1 hg rfl d1
      exact (k2.fw f).append (.cons (r1.fw f) .nil)
    · exact h1.elim
def leI (a b : Int) : Bool := decide (a ≤ b)
def leT (a b : List Int) : Bool := PySem.W.dataLe false (fun k : List Int => PyData.tuple (k.map .int)) a b
def srtI (s : S) : Option (List Int) → R D
  | some ks => newL ((EVS.isrt leI ks).map .int) s
  | none => .no
def srtT (s : S) : Option (List (List Int)) → R D
  | some ks => newL ((EVS.isrt leT ks).map fun k => .tup (k.map .int)) s
  | none => .no
def srtC (s : S) : Option Cell → R D
  | some (.set false l) => srtI s (allO (l.map intOf))
  | some (.set true l) => srtT s (allO (l.map intsOf))
  | _ => .no
theorem perm_sorted {α : Type} {le : α → α → Bool} : ∀ {l m : List α}, l.Perm m → l.Pairwise (fun a b => le a b = true) → m.Pairwise (fun a b => le a b = true) → (∀ a b, le a b = true → le b a = true → a = b) → l = m
  | [], m, p, _, _, _ => (p.symm.eq_nil).symm
  | a :: l, [], p, _, _, _ => absurd p.eq_nil (by simp)
  | a :: l, b :: m, p, hl, hm, an => by
    obtain ⟨l1, l2⟩ := List.pairwise_cons.mp hl
    obtain ⟨m1, m2⟩ := List.pairwise_cons.mp hm
    have e : a = b := by
      have ha := p.mem_iff.mp (List.mem_cons_self (a := a) (l := l))
      have hb := p.mem_iff.mpr (List.mem_cons_self (a := b) (l := m))
      rcases List.mem_cons.mp ha with e | ha
      · exact e
      · rcases List.mem_cons.mp hb with e | hb
        · exact e.symm
        · exact an a b (l1 b hb) (m1 a ha)
    subst e
    rw [perm_sorted ((List.perm_cons a).mp p) l2 m2 an]
theorem perm_merge {α : Type} {le : α → α → Bool} (tr : ∀ a b c : α, le a b = true → le b c = true → le a c = true) (tt : ∀ a b : α, (le a b || le b a) = true) (an : ∀ a b, le a b = true → le b a = true → a = b) {l m : List α} (p : l.Perm m) : l.mergeSort le = EVS.isrt le m := by
  rw [← EVS.mergeSort_isrt tr tt m]
  exact perm_sorted (((List.mergeSort_perm l le).trans p).trans (List.mergeSort_perm m le).symm) (List.pairwise_mergeSort tr tt l) (List.pairwise_mergeSort tr tt m) an
theorem leI_ok : (∀ a b c : Int, leI a b = true → leI b c = true → leI a c = true) ∧ (∀ a b : Int, (leI a b || leI b a) = true) ∧ ∀ a b, leI a b = true → leI b a = true → a = b := by
  unfold leI
  refine ⟨fun a b c => ?_, fun a b => ?_, fun a b => ?_⟩ <;> simp only [decide_eq_true_eq, Bool.or_eq_true] <;> omega
theorem toks_ints : ∀ {k m : List Int}, PySem.W.keyToksAll (k.map .int) = PySem.W.keyToksAll (m.map .int) → k = m
  | [], [], _ => rfl
  | [], y :: m, e => by simp [PySem.W.keyToksAll] at e
  | x :: k, [], e => by simp [PySem.W.keyToksAll] at e
  | x :: k, y :: m, e => by
    simp only [List.map_cons, PySem.W.keyToksAll, PySem.W.keyToks, List.cons_append, List.nil_append, List.cons.injEq, Sum.inl.injEq, true_and] at e
    rw [e.1, toks_ints e.2]
theorem leT_lt (a b : List Int) : leT a b = !(PyProof.Rows.lexLt itemOrd (PySem.W.keyToks (.tuple (b.map .int))) (PySem.W.keyToks (.tuple (a.map .int)))) := rfl
theorem leT_ok : (∀ a b c : List Int, leT a b = true → leT b c = true → leT a c = true) ∧ (∀ a b : List Int, (leT a b || leT b a) = true) ∧ ∀ a b, leT a b = true → leT b a = true → a = b := by
  refine ⟨fun a b c h1 h2 => ?_, fun a b => ?_, fun a b h1 h2 => ?_⟩
  · rw [leT_lt] at h1 h2 ⊢
    simp only [Bool.not_eq_true'] at h1 h2 ⊢
    cases h : PyProof.Rows.lexLt itemOrd (PySem.W.keyToks (.tuple (c.map .int))) (PySem.W.keyToks (.tuple (a.map .int))) with
    | false => rfl
    | true =>
      rcases lex_negTrans (O := itemOrd) _ (PySem.W.keyToks (.tuple (b.map .int))) _ h with z | z
      · rw [z] at h2; cases h2
      · rw [z] at h1; cases h1
  · rw [leT_lt, leT_lt]
    cases h1 : PyProof.Rows.lexLt itemOrd (PySem.W.keyToks (.tuple (b.map .int))) (PySem.W.keyToks (.tuple (a.map .int))) with
    | false => rfl
    | true =>
      cases h2 : PyProof.Rows.lexLt itemOrd (PySem.W.keyToks (.tuple (a.map .int))) (PySem.W.keyToks (.tuple (b.map .int))) with
      | false => rfl
      | true =>
        have := lex_trans (O := itemOrd) _ _ _ h1 h2
        rw [lex_irrefl] at this; cases this
  · rw [leT_lt] at h1 h2
    simp only [Bool.not_eq_true'] at h1 h2
    have e := lex_total (O := itemOrd) _ _ h1 h2
    refine (toks_ints ?_).symm
    simpa [PySem.W.keyToks] using e
theorem rvs_ints {K : PySem.W.Frag} {H : Hp} {ι : List Addr} : ∀ ks : List Int, RVs K H ι (ks.map .int) (ks.map V.int)
  | [] => .nil
  | k :: ks => .cons (.int k) (rvs_ints ks)
theorem each_back {K : PySem.W.Frag} {H : Hp} {ι : List Addr} {α : Type} {f : α → EV.D} : ∀ {out : List Value} {l : List α}, PySem.W.EachIs (fun v b => ∃ x, RelV x v ∧ RV K H ι (f b) x) out l → ∃ xs, Vals xs out ∧ RVs K H ι (l.map f) xs
  | _, _, .nil => ⟨[], .nil, .nil⟩
  | _, _, .cons ⟨x, h1, h2⟩ t => by
    obtain ⟨xs, k1, k2⟩ := each_back t
    exact ⟨x :: xs, .cons h1 k1, .cons h2 k2⟩
theorem c_srtSet (A : At X g W) : CallR X (.builtin "sorted") (fun vs H Q => ∃ E ι st r a, vs = [.ref a] ∧ RS g.K g.T H ι st ∧ ι[r]? = some a ∧ tRe g E (srtC st (st.get r)) H ι Q) := by
  intro pins s σ H vs us Q I r ⟨E, ι, st, j, a, ev, R, ha, q⟩
  subst ev
  obtain ⟨u, rfl, ru⟩ := vals1 r
  cases ru
  have hu := A.un
  have hh := I.ok.hd A.calm
  cases hc : st.get j with
  | none => rw [hc] at q; exact q.elim
  | some c =>
    rw [hc] at q
    cases c with
    | set kd l =>
      have cell := R.at ha hc
      cases kd with
      | false =>
        obtain ⟨ks, rfl, nd, hl, ho⟩ := cell
        rw [← A.w] at ho
        have SR : SetR X.w s.heap a (fun k => decide (k ∈ ks)) ks.length := (I.hok a _ ho).1
        obtain ⟨o, es, ep, t, h1, h2, h3, gd, n2, mm, hz, hf, hn, rs, ld⟩ := SR
        change tRe g E (srtI st (allO ((ks.map EV.D.int).map intOf))) H ι Q at q
        rw [ints_allO] at q
        have hks : ks.Perm (es.toList.map keyOf) := by
          refine (List.perm_ext_iff_of_nodup nd n2).mpr fun k => ?_
          rw [← mm k]
          simp
        refine EVS.sorted_gen (β := Int) (enc := fun k : Int => PyData.int k) (R := fun v (b : Int) => ∃ x, RelV x v ∧ RV g.K H ι (.int b) x) (P := fun us ps => PySem.W.EachIs (fun v (k : Int) => ∃ t, v = Value.int k t) us ps ∧ ps.Perm ks)
          (fun A' E2 Q2 hh2 h2' => EVS.gath_set ⟨o, h1, h2.1, h3⟩ hf hz rs ld A' E2 Q2 hh2 fun s' us k g' o' pm => h2' s' us k g' o' ?_) hh (fun us ps ⟨e, pm⟩ => ?_) fun s' D us ps out c ⟨e, pm⟩ k hg ho' hn' hD eo => ?_
        · have all : ∀ us : List Value, (∀ u ∈ us, ∃ k tk, u = Value.int k tk) → ∃ ps : List Int, PySem.W.EachIs (fun v (k : Int) => ∃ t, v = Value.int k t) us ps ∧ ps = us.map (fun u => match u with | .int k _ => k | _ => 0) := by
            intro us
            induction us with
            | nil => intro _; exact ⟨[], .nil, rfl⟩
            | cons u us ih =>
              intro h
              obtain ⟨k, tk, rfl⟩ := h u (List.mem_cons_self ..)
              obtain ⟨ps, i1, i2⟩ := ih fun v hv => h v (List.mem_cons_of_mem _ hv)
              exact ⟨k :: ps, .cons ⟨tk, rfl⟩ i1, by rw [List.map_cons, ← i2]⟩
          obtain ⟨ps, i1, i2⟩ := all us fun u hm => by
            obtain ⟨e, he, rfl⟩ := List.mem_map.mp (pm.mem_iff.mp hm)
            obtain ⟨k, tk, z, _⟩ := gd e he
            exact ⟨k, tk, z⟩
          refine ⟨ps, i1, ?_⟩
          rw [i2]
          refine (pm.map _).trans (List.Perm.trans ?_ hks.symm)
          rw [List.map_map]
          exact .of_eq (List.map_congr_left fun e _ => rfl)
        · have e2 : PySem.W.EachIs (fun v (k : Int) => (∃ x, RelV x v ∧ RV g.K H ι (.int k) x) ∧ ∃ as, Reads s.heap v (PyData.int k) as) us ps := e.mono fun v k ⟨t, hv⟩ => by
            subst hv
            exact ⟨⟨.int k, ⟨t, rfl⟩, .int k⟩, [], .int k t⟩
          refine ⟨e2.mono fun _ _ z => z.1, e2.mono fun _ _ z => z.2, PySem.W.AllAlike.of fun _ _ => by simp [PySem.W.alike], .inr fun d hd => ?_, ?_, fun b _ => ?_⟩
          · obtain ⟨k, _, rfl⟩ := List.mem_map.mp hd
            exact ⟨(fun z => by cases z), fun xs z => by cases z⟩
          · rw [pm.length_eq, sizeLine_eq]; omega
          · show X.A.units + 2 + (PyData.int b).depth < cLine
            simp only [PyData.depth]
            omega
        · have eq : ps.mergeSort (PySem.W.dataLe false fun k : Int => PyData.int k) = EVS.isrt leI ks := by
            rw [PySem.W.dataLe_int (fun k : Int => k)]
            exact perm_merge leI_ok.1 leI_ok.2.1 leI_ok.2.2 pm
          rw [eq] at eo
          obtain ⟨ys, k1, k2⟩ := each_back (f := EV.D.int) eo
          obtain ⟨hD0, J⟩ := laid_new I k hg ho' hn' hD k1 (by rw [eo.length, ← eq, List.length_mergeSort, pm.length_eq, sizeLine_eq]; omega)
          exact ⟨.ref D, _, J, rfl, newL_ok R k2 q D hD0⟩
      | true =>
        obtain ⟨ks, L, rfl, nd, hl, pL, ht, ho⟩ := cell
        rw [← A.w, setTO_P (P' := X.prog)] at ho
        have S0 : SetT0 X.prog X.w s.heap a L := (I.hok a _ ho).1
        obtain ⟨es, ep, t, SR⟩ := S0.full fun p hp => I.isT (by rw [A.K]; exact ht p hp)
        obtain ⟨o, h1, h2, h3⟩ := SR.ob
        have eks := tups_allO ks
        change tRe g E (srtT st (allO ((ks.map fun k => EV.D.tup (k.map .int)).map intsOf))) H ι Q at q
        rw [eks] at q
        have hLl : L.length = ks.length := by have := pL.length_eq; rwa [List.length_map] at this
        refine EVS.sorted_gen (β := List Int) (enc := fun k : List Int => PyData.tuple (k.map .int)) (R := fun v (b : List Int) => ∃ x, RelV x v ∧ RV g.K H ι (.tup (b.map .int)) x) (P := fun us ps => PySem.W.EachIs (fun v (k : List Int) => ∃ b, v = Value.ref b ∧ SqT g.K H b (k.map V.int)) us ps ∧ ps.Perm ks)
          (fun A' E2 Q2 hh2 h2' => EVS.gath_set ⟨o, h1, h2.1, h3⟩ SR.fits (by have := SR.size; unfold scanBound; omega) SR.tab.ris SR.led A' E2 Q2 hh2 fun s' us k g' o' pm => h2' s' us k g' o' ?_) hh (fun us ps ⟨e, pm⟩ => ?_) fun s' D us ps out c ⟨e, pm⟩ k hg ho' hn' hD eo => ?_
        · have hes : es.toList.map (·.2) = L.map fun q => Value.ref q.1 := by
            rw [SR.rows]
            unfold rowsOf
            rw [List.map_map]; rfl
          rw [hes] at pm
          have all : ∀ (us : List Value) (M : List (Addr × List Int)), (∀ p ∈ M, p ∈ L) → us = M.map (fun q => Value.ref q.1) → PySem.W.EachIs (fun v (k : List Int) => ∃ b, v = Value.ref b ∧ SqT g.K H b (k.map V.int)) us (M.map (·.2)) := by
            intro us M hM e
            subst e
            induction M with
            | nil => exact .nil
            | cons p M ih => exact .cons ⟨p.1, rfl, ht p (hM p (List.mem_cons_self ..))⟩ (ih fun q hq => hM q (List.mem_cons_of_mem _ hq))
          have ord : ∀ {us : List Value} {L0 : List (Addr × List Int)}, us.Perm (L0.map fun q => Value.ref q.1) → ∃ M : List (Addr × List Int), M.Perm L0 ∧ us = M.map fun q => Value.ref q.1 := by
            intro us
            induction us with
            | nil =>
              intro L0 p
              have : L0 = [] := by have := p.symm.eq_nil; simpa using this
              exact ⟨[], by rw [this], rfl⟩
            | cons u us ih =>
              intro L0 p
              obtain ⟨q0, hq, e⟩ := List.mem_map.mp (p.mem_iff.mp (List.mem_cons_self (a := u) (l := us)))
              obtain ⟨L1, p1⟩ : ∃ L1, L0.Perm (q0 :: L1) := by
                obtain ⟨l1, l2, rfl⟩ := List.append_of_mem hq
                exact ⟨l1 ++ l2, List.perm_middle⟩
              have p2 := p.trans (p1.map fun q => Value.ref q.1)
              rw [List.map_cons, e] at p2
              obtain ⟨M, m1, m2⟩ := ih ((List.perm_cons _).mp p2)
              exact ⟨q0 :: M, (m1.cons q0).trans p1.symm, by rw [List.map_cons, ← m2, e]⟩
          obtain ⟨M, m1, m2⟩ := ord pm
          exact ⟨M.map (·.2), all us M (fun p hp => m1.mem_iff.mp hp) m2, (m1.map fun p : Addr × List Int => p.2).trans pL⟩
        · have rd : ∀ (k : List Int) (b : Addr), SqT g.K H b (k.map V.int) → ∃ as, Reads s.heap (.ref b) (PyData.tuple (k.map .int)) as := fun k b h => by
            have dp : DpAll g.K H (k.map V.int) (k.map PyData.int) := by
              clear h
              induction k with
              | nil => exact .nil
              | cons n k ih => exact .cons (.int n) ih
            refine Dp.reads I (.tuple (k.map .int)) (.ref b) (.ref b) ?_ rfl
            rw [A.K]
            exact .tup h dp
          have e2 : PySem.W.EachIs (fun v (k : List Int) => (∃ x, RelV x v ∧ RV g.K H ι (.tup (k.map .int)) x) ∧ ∃ as, Reads s.heap v (PyData.tuple (k.map .int)) as) us ps := e.mono fun v k ⟨b, hv, h⟩ => by
            subst hv
            exact ⟨⟨.ref b, rfl, .tup h (rvs_ints k)⟩, rd k b h⟩
          refine ⟨e2.mono fun _ _ z => z.1, e2.mono fun _ _ z => z.2, PySem.W.AllAlike.of (enc := fun k : List Int => PyData.tuple (k.map .int)) fun k m => ?_, .inl fun d hd => ?_, ?_, fun b _ => ?_⟩
          · show PySem.W.alike (.tuple (k.map .int)) (.tuple (m.map .int)) = true
            rw [PySem.W.alike]
            exact PySem.W.alike_ints k m
          · obtain ⟨k, _, rfl⟩ := List.mem_map.mp hd
            exact ⟨_, rfl⟩
          · rw [pm.length_eq, sizeLine_eq]; omega
          · show X.A.units + 2 + (PyData.tuple (b.map .int)).depth < cLine
            simp only [PyData.depth, PySem.W.depth_ints]
            omega
        · have eq : ps.mergeSort (PySem.W.dataLe false fun k : List Int => PyData.tuple (k.map .int)) = EVS.isrt leT ks := perm_merge leT_ok.1 leT_ok.2.1 leT_ok.2.2 pm
          rw [eq] at eo
          obtain ⟨ys, k1, k2⟩ := each_back (f := fun k : List Int => EV.D.tup (k.map .int)) eo
          obtain ⟨hD0, J⟩ := laid_new I k hg ho' hn' hD k1 (by rw [eo.length, ← eq, List.length_mergeSort, pm.length_eq, sizeLine_eq]; omega)
          exact ⟨.ref D, _, J, rfl, newL_ok R k2 q D hD0⟩
    | lst l => exact q.elim
    | frz l => exact q.elim
    | dct l => exact q.elim
    | fdc l => exact q.elim
    | dci l => exact q.elim
    | fdi l => exact q.elim
    | sn l => exact q.elim
    | crn k tr => exact q.elim
    | urn tr => exact q.elim
end
end EV
namespace EV
open L2 PySem PySem.Spec PyProof.Rows EVC
def eqKl (f : D → D → Bool) : List D → List D → Bool
  | [], [] => true
  | a :: as, b :: bs => f a b && eqKl f as bs
  | _, _ => false
/-- the same key, None and bools apart -/
def eqK : Nat → D → D → Bool
  | 0, _, _ => false
  | _ + 1, .int i, .int j => decide (i = j)
  | n + 1, .tup l, .tup m => eqKl (eqK n) l m
  | _, _, _ => false
/-- a key of ints and tuples -/
def plK : Nat → D → Bool
  | 0, _ => false
  | _ + 1, .int _ => true
  | n + 1, .tup l => l.all (plK n)
  | _, _ => false
theorem plK_key : ∀ (n : Nat) (d : D), plK n d = true → ∃ k, d.key n = some k
  | 0, _, h => by cases h
  | n + 1, .int i, _ => ⟨.num i, rfl⟩
  | n + 1, .tup l, h => by
    have h' : l.all (plK n) = true := h
    have : ∃ ks, allO (l.map (D.key n)) = some ks := by
      clear h
      induction l with
      | nil => exact ⟨[], rfl⟩
      | cons d l ih =>
        rw [List.all_cons, Bool.and_eq_true] at h'
        obtain ⟨k, hk⟩ := plK_key n d h'.1
        obtain ⟨ks, hs⟩ := ih h'.2
        refine ⟨k :: ks, ?_⟩
        rw [List.map_cons, hk]
        unfold allO
        rw [hs]
    obtain ⟨ks, hs⟩ := this
    exact ⟨.tup ks, by show (allO (l.map (D.key n))).map NestedKey.tup = _; rw [hs]; rfl⟩
  | _ + 1, .non, h => by cases h
  | _ + 1, .bl _, h => by cases h
  | _ + 1, .str _, h => by cases h
  | _ + 1, .lst _, h => by cases h
  | _ + 1, .dct _, h => by cases h
  | _ + 1, .ty _, h => by cases h
  | _ + 1, .kls _, h => by cases h
  | _ + 1, .scr _ _, h => by cases h
  | _ + 1, .tpn _, h => by cases h
  | _ + 1, .set _, h => by cases h
theorem eqK_key : ∀ (n : Nat) (x y : D) (k m : NestedKey), plK n x = true → plK n y = true → x.key n = some k → y.key n = some m → eqK n x y = decide (k = m)
  | 0, _, _, _, _, h, _, _, _ => by cases h
  | n + 1, .int i, y, k, m, _, hy, ek, em => by
    cases ek
    cases y with
    | int j =>
      cases em
      show decide (i = j) = decide (NestedKey.num i = NestedKey.num j)
      exact decide_eq_decide.mpr ⟨fun e => e ▸ rfl, fun e => by injection e⟩
    | tup l =>
      obtain ⟨ks, _, rfl⟩ := Option.map_eq_some_iff.mp (show (allO (l.map (D.key n))).map NestedKey.tup = some m from em)
      exact (decide_eq_false (fun z => by cases z)).symm
    | _ => cases hy
  | n + 1, .tup l, y, k, m, hx, hy, ek, em => by
    obtain ⟨ks, e1, rfl⟩ := Option.map_eq_some_iff.mp (show (allO (l.map (D.key n))).map NestedKey.tup = some k from ek)
    cases y with
    | int j =>
      cases em
      exact (decide_eq_false (fun z => by cases z)).symm
    | tup l' =>
      obtain ⟨ms, e2, rfl⟩ := Option.map_eq_some_iff.mp (show (allO (l'.map (D.key n))).map NestedKey.tup = some m from em)
      have hx' : l.all (plK n) = true := hx
      have hy' : l'.all (plK n) = true := hy
      have go : ∀ (l l' : List D) (ks ms : List NestedKey), l.all (plK n) = true → l'.all (plK n) = true → allO (l.map (D.key n)) = some ks → allO (l'.map (D.key n)) = some ms → eqKl (eqK n) l l' = decide (ks = ms) := by
        intro l
        induction l with
        | nil =>
          intro l' ks ms _ _ h1 h2
          cases h1
          cases l' with
          | nil => cases h2; rfl
          | cons b l' =>
            refine (decide_eq_false fun z => ?_).symm
            rw [← z, List.map_cons] at h2
            rw [List.all_cons, Bool.and_eq_true] at *
            cases hb : D.key n b with
            | none => rw [hb] at h2; cases h2
            | some kb =>
              rw [hb] at h2
              unfold allO at h2
              split at h2 <;> cases h2
        | cons a l ih =>
          intro l' ks ms p1 p2 h1 h2
          rw [List.all_cons, Bool.and_eq_true] at p1
          obtain ⟨ka, hka⟩ := plK_key n a p1.1
          rw [List.map_cons, hka] at h1
          unfold allO at h1
          split at h1
          · rename_i ks' hk'
            cases h1
            cases l' with
            | nil =>
              cases h2
              exact (decide_eq_false (fun z => by cases z)).symm
            | cons b l' =>
              rw [List.all_cons, Bool.and_eq_true] at p2
              obtain ⟨kb, hkb⟩ := plK_key n b p2.1
              rw [List.map_cons, hkb] at h2
              unfold allO at h2
              split at h2
              · rename_i ms' hm'
                cases h2
                show (eqK n a b && eqKl (eqK n) l l') = _
                rw [eqK_key n a b ka kb p1.1 p2.1 hka hkb, ih l' ks' ms' p1.2 p2.2 hk' hm', ← Bool.decide_and]
                exact decide_eq_decide.mpr ⟨fun ⟨z1, z2⟩ => by rw [z1, z2], fun z => by injection z with z1 z2; exact ⟨z1, z2⟩⟩
              · cases h2
          · cases h1
      show eqKl (eqK n) l l' = _
      rw [go l l' ks ms hx' hy' e1 e2]
      exact decide_eq_decide.mpr ⟨fun e => e ▸ rfl, fun e => by injection e⟩
    | _ => cases hy
  | _ + 1, .non, _, _, _, h, _, _, _ => by cases h
  | _ + 1, .bl _, _, _, _, h, _, _, _ => by cases h
  | _ + 1, .str _, _, _, _, h, _, _, _ => by cases h
  | _ + 1, .lst _, _, _, _, h, _, _, _ => by cases h
  | _ + 1, .dct _, _, _, _, h, _, _, _ => by cases h
  | _ + 1, .ty _, _, _, _, h, _, _, _ => by cases h
  | _ + 1, .kls _, _, _, _, h, _, _, _ => by cases h
  | _ + 1, .scr _ _, _, _, _, h, _, _, _ => by cases h
  | _ + 1, .tpn _, _, _, _, h, _, _, _ => by cases h
  | _ + 1, .set _, _, _, _, h, _, _, _ => by cases h
theorem key_depth : ∀ (n : Nat) (d : D) (k : NestedKey), d.key n = some k → k.depth ≤ n
  | 0, _, _, h => by cases h
  | n + 1, .int i, k, h => by cases h; exact Nat.zero_le _
  | n + 1, .non, k, h => by cases h; exact Nat.zero_le _
  | n + 1, .bl b, k, h => by cases h; exact Nat.zero_le _
  | n + 1, .tup l, k, h => by
    obtain ⟨ks, e1, rfl⟩ := Option.map_eq_some_iff.mp (show (allO (l.map (D.key n))).map NestedKey.tup = some k from h)
    have go : ∀ (l : List D) (ks : List NestedKey), allO (l.map (D.key n)) = some ks → NestedKey.depthAll ks ≤ n := by
      intro l
      induction l with
      | nil => intro ks e; cases e; exact Nat.zero_le _
      | cons a l ih =>
        intro ks e
        rw [List.map_cons] at e
        cases ha : D.key n a with
        | none => rw [ha] at e; cases e
        | some ka =>
          rw [ha] at e
          unfold allO at e
          split at e
          · rename_i ks' hk'
            cases e
            have h1 := key_depth n a ka ha
            have h2 := ih ks' hk'
            show max ka.depth (NestedKey.depthAll ks') ≤ n
            omega
          · cases e
    have := go l ks e1
    show NestedKey.depthAll ks + 1 ≤ n + 1
    omega
  | _ + 1, .str _, _, h => by cases h
  | _ + 1, .lst _, _, h => by cases h
  | _ + 1, .dct _, _, h => by cases h
  | _ + 1, .ty _, _, h => by cases h
  | _ + 1, .kls _, _, h => by cases h
  | _ + 1, .scr _ _, _, h => by cases h
  | _ + 1, .tpn _, _, h => by cases h
  | _ + 1, .set _, _, h => by cases h
section
variable {X : Cx} {g : Cfg} {W : WX} {pins : List (Addr × Obj)} {s : Shared} {σ : L2.St} {H : Hp} {ι : List Addr} {st : S}
/-- a value that stands for a key -/
theorem key_nested (I : Inv X pins σ H s) (hK : X.K = g.K) : ∀ (n : Nat) (d : D) (v : V) (u : Value) (k : NestedKey), RV g.K H ι d v → RelV v u → d.key n = some k → NestedIs s.heap k u
  | 0, _, _, _, _, _, _, e => by cases e
  | n + 1, d, v, u, k, h, r, e => by
    cases h with
    | non => cases e; cases r; exact .none
    | bl b => cases e; cases r; exact .bool rfl
    | int i => cases e; obtain ⟨t, rfl⟩ := r; exact .int i t
    | @tup a l xs h1 h2 =>
      obtain ⟨ks, e1, rfl⟩ := Option.map_eq_some_iff.mp (show (allO (l.map (D.key n))).map NestedKey.tup = some k from e)
      cases r
      obtain ⟨its, rv, ⟨o, ho, hc, m, hd⟩, _⟩ := I.tuple (by rw [hK]; exact h1)
      refine .tup ho hc hd ?_
      have go : ∀ (l : List D) (xs : List V) (its : List Value) (ks : List NestedKey), RVs g.K H ι l xs → Vals xs its → allO (l.map (D.key n)) = some ks → NestedAll s.heap ks its := by
        intro l
        induction l with
        | nil => intro xs its ks q r e; cases q; cases r; cases e; exact .nil
        | cons a l ih =>
          intro xs its ks q r e
          cases q with
          | cons q1 q2 => cases r with
            | cons r1 r2 =>
              rw [List.map_cons] at e
              cases ha : D.key n a with
              | none => rw [ha] at e; cases e
              | some ka =>
                rw [ha] at e
                unfold allO at e
                split at e
                · rename_i ks' hk'
                  cases e
                  exact .cons (key_nested I hK n a _ _ ka q1 r1 ha) (ih _ _ ks' q2 r2 hk')
                · cases e
      exact go l xs its ks h2 rv e1
    | str _ => cases e
    | lst _ => cases e
    | dct _ => cases e
    | ty _ => cases e
    | kls _ => cases e
    | scr _ _ _ _ => cases e
    | tpn _ _ => cases e
    | set _ => cases e
/-- the pairs and the entries -/
def DX (K : PySem.W.Frag) (H : Hp) (ι : List Addr) : List (D × D) → List (NestedKey × Addr × Value) → Prop :=
  Paired fun (p : D × D) (q : NestedKey × Addr × Value) => p.1.key 8 = some q.1 ∧ RV K H ι p.1 (.ref q.2.1) ∧ ∃ v, RV K H ι p.2 v ∧ RelV v q.2.2
theorem DX.of {K : PySem.W.Frag} : ∀ {kvs : List (D × D)} {l : List DEnt} {xs : List (NestedKey × Addr × Value)}, DRel K H ι kvs l → Paired (fun (p : DEnt) (q : NestedKey × Addr × Value) => p.k = q.1 ∧ p.a = q.2.1 ∧ RelV p.v q.2.2) l xs → DX K H ι kvs xs
  | _, _, _, .nil, r => by cases r; exact .nil
  | _, _, _, .cons ⟨h1, h2, h3⟩ t, r => by
    cases r with
    | cons r1 r2 =>
      obtain ⟨e1, e2, e3⟩ := r1
      exact .cons ⟨by rw [← e1]; exact h1, by rw [← e2]; exact h2, _, h3, e3⟩ (DX.of t r2)
theorem DX.split {K : PySem.W.Frag} : ∀ {kvs : List (D × D)} {xs : List (NestedKey × Addr × Value)}, DX K H ι kvs xs → ∃ l : List DEnt, DRel K H ι kvs l ∧ Paired (fun (p : DEnt) (q : NestedKey × Addr × Value) => p.k = q.1 ∧ p.a = q.2.1 ∧ RelV p.v q.2.2) l xs
  | _, _, .nil => ⟨[], .nil, .nil⟩
  | _, _, .cons (b := q) ⟨h1, h2, v, h3, h4⟩ t => by
    obtain ⟨l, k1, k2⟩ := DX.split t
    exact ⟨⟨q.1, q.2.1, v⟩ :: l, .cons ⟨h1, h2, h3⟩ k1, .cons ⟨rfl, rfl, h4⟩ k2⟩
theorem DX.is {K : PySem.W.Frag} (hK : X.K = g.K) (I : Inv X pins σ H s) : ∀ {kvs : List (D × D)} {xs : List (NestedKey × Addr × Value)}, DX g.K H ι kvs xs → ∀ x ∈ xs, (nestedKind X.prog X.w).is s.heap x.1 x.2.1
  | _, _, .nil, x, hx => by cases hx
  | _, _, .cons (b := q) ⟨h1, h2, _⟩ t, x, hx => by
    rcases List.mem_cons.mp hx with rfl | hx
    · exact ⟨key_nested I hK 8 _ _ _ _ h2 rfl h1, key_depth 8 _ _ h1⟩
    · exact DX.is (K := K) hK I t x hx
/-- what stands at the cell's address -/
theorem dct_at (I : Inv X pins σ H s) (A : At X g W) (R : RS g.K g.T H ι st) {r : Nat} {a : Addr} {kvs : List (D × D)} (ha : ι[r]? = some a) (hc : st.get r = some (.dct kvs)) :
    ∃ l xs, H a = some (DAo X.w a l) ∧ (a == sysModules) = false ∧ DX g.K H ι kvs xs ∧ s.heap.DictOfH (nestedKind X.prog X.w) a xs ∧ kvs.length ≤ 100000 ∧ xs.length = kvs.length := by
  obtain ⟨l, ho, rl, hz⟩ := R.at ha hc
  rw [← A.w] at ho
  obtain ⟨⟨xs, pr, o, es, ep, h1, h2, h3, h4, h5⟩, hs⟩ := (I.hok a _ ho).1
  have dx := DX.of rl pr
  have hl : xs.length = kvs.length := by
    have : ∀ {kvs : List (D × D)} {xs : List (NestedKey × Addr × Value)}, DX g.K H ι kvs xs → xs.length = kvs.length := fun {kvs xs} h => by
      unfold DX at h
      induction h with
      | nil => rfl
      | cons _ _ ih => simp [ih]
    exact this dx
  exact ⟨l, xs, ho, hs, dx, ⟨o, es, ep, h1, h2, h3, h4, DX.is (K := g.K) A.K I dx, h5⟩, hz, hl⟩
def dfind (x : D) (kvs : List (D × D)) : Option D := (kvs.find? fun p => eqK 8 p.1 x).map (·.2)
def dput (kvs : List (D × D)) (x y : D) : List (D × D) := if (dfind x kvs).isSome then kvs.map (fun p => if eqK 8 p.1 x = true then (p.1, y) else p) else kvs ++ [(x, y)]
def plKs (kvs : List (D × D)) : Bool := kvs.all fun p => plK 8 p.1
theorem dfind_ok {K : PySem.W.Frag} {x : D} {k : NestedKey} (hx : plK 8 x = true) (hk : x.key 8 = some k) {kvs : List (D × D)} {xs : List (NestedKey × Addr × Value)} (hp : plKs kvs = true) (h : DX K H ι kvs xs) :
    (dfind x kvs = none → atKey xs k = none) ∧ ∀ y, dfind x kvs = some y → ∃ p v, atKey xs k = some p ∧ RV K H ι y v ∧ RelV v p.2 := by
  unfold DX at h
  induction h with
  | nil => exact ⟨fun _ => rfl, fun y e => by cases e⟩
  | @cons p q ps qs h t ih =>
    obtain ⟨h1, h2, v, h3, h4⟩ := h
    unfold plKs at hp
    rw [List.all_cons, Bool.and_eq_true] at hp
    have ih := ih hp.2
    have e := eqK_key 8 p.1 x q.1 k hp.1 hx h1 hk
    unfold dfind at ih ⊢
    unfold atKey at ih ⊢
    rw [List.find?_cons, List.find?_cons, e]
    cases hd : decide (q.1 = k) with
    | true => exact ⟨(fun z => by cases z), (fun y z => by cases z; exact ⟨_, v, rfl, h3, h4⟩)⟩
    | false => exact ih
theorem dput_ok {K : PySem.W.Frag} {x y : D} {k : NestedKey} {a : Addr} {v : V} {u : Value} (hx : plK 8 x = true) (hk : x.key 8 = some k) (rx : RV K H ι x (.ref a)) (ry : RV K H ι y v) (ru : RelV v u) {kvs : List (D × D)} {xs : List (NestedKey × Addr × Value)} (hp : plKs kvs = true) (h : DX K H ι kvs xs) :
    DX K H ι (dput kvs x y) (storedH xs k a u) := by
  obtain ⟨f1, f2⟩ := dfind_ok hx hk hp h
  unfold dput
  cases hf : dfind x kvs with
  | none =>
    rw [if_neg (by simp), storedH_new (f1 hf)]
    have go : ∀ {kvs : List (D × D)} {xs : List (NestedKey × Addr × Value)}, DX K H ι kvs xs → DX K H ι (kvs ++ [(x, y)]) (xs ++ [(k, a, u)]) := fun {kvs xs} h => by
      unfold DX at h ⊢
      induction h with
      | nil => exact .cons ⟨hk, rx, v, ry, ru⟩ .nil
      | cons h _ ih => exact .cons h ih
    exact go h
  | some y0 =>
    obtain ⟨p, _, e, _⟩ := f2 y0 hf
    rw [if_pos (by simp), storedH_old e]
    have go : ∀ {kvs : List (D × D)} {xs : List (NestedKey × Addr × Value)}, plKs kvs = true → DX K H ι kvs xs → DX K H ι (kvs.map fun p => if eqK 8 p.1 x = true then (p.1, y) else p) (xs.map (putAt k u)) := fun {kvs xs} hp h => by
      unfold DX at h ⊢
      induction h with
      | nil => exact .nil
      | @cons p q ps qs h _ ih =>
        unfold plKs at hp
        rw [List.all_cons, Bool.and_eq_true] at hp
        obtain ⟨h1, h2, w, h3, h4⟩ := h
        have e := eqK_key 8 p.1 x q.1 k hp.1 hx h1 hk
        rw [List.map_cons, List.map_cons]
        refine .cons ?_ (ih hp.2)
        unfold putAt
        by_cases hq : q.1 = k
        · rw [if_pos hq, if_pos (by rw [e]; exact decide_eq_true hq)]
          exact ⟨h1, h2, v, ry, ru⟩
        · rw [if_neg hq, if_neg (by rw [e]; simp [hq])]
          exact ⟨h1, h2, w, h3, h4⟩
    exact go hp h
end
end EV
namespace EV
open L2 PySem PySem.Spec PyProof.Rows EVC
def onD {α : Type} (d : D) (s : S) (f : Nat → List (D × D) → R α) : R α := match d with
  | .dct r => match s.get r with
    | some (.dct kvs) => if plKs kvs = true then f r kvs else .no
    | _ => .no
  | _ => .no
/-- a key that may be looked up -/
def onK {α : Type} (x : D) (m : R α) : R α := match x with
  | .tup _ => if plK 8 x = true then m else .no
  | _ => .no
section
variable {X : Cx} {g : Cfg} {W : WX} {E : XK} {pins : List (Addr × Obj)} {s : Shared} {σ : L2.St} {H : Hp} {ι : List Addr} {st : S}
theorem onD_ok {α β : Type} {Rl : Hp → List Addr → α → β → Prop} {d : D} {f : Nat → List (D × D) → R α} {Q : β → Hp → Prop} {v : V} (h : RV g.K H ι d v) (q : tR g E Rl (onD d st f) H ι Q) :
    ∃ r a kvs, d = .dct r ∧ v = .ref a ∧ ι[r]? = some a ∧ st.get r = some (.dct kvs) ∧ plKs kvs = true ∧ tR g E Rl (f r kvs) H ι Q := by
  unfold onD at q
  cases h with
  | @dct r a h1 =>
    simp only at q
    cases hs : st.get r with
    | none => rw [hs] at q; exact q.elim
    | some c =>
      rw [hs] at q
      cases c with
      | dct kvs =>
        obtain ⟨hp, q⟩ := tR.ite q
        exact ⟨r, a, kvs, rfl, rfl, h1, hs, hp, q⟩
      | _ => exact q.elim
  | _ => exact q.elim
theorem onK_ok {α β : Type} {Rl : Hp → List Addr → α → β → Prop} {x : D} {m : R α} {Q : β → Hp → Prop} {v : V} (h : RV g.K H ι x v) (q : tR g E Rl (onK x m) H ι Q) : ∃ a k, v = .ref a ∧ plK 8 x = true ∧ x.key 8 = some k ∧ tR g E Rl m H ι Q := by
  unfold onK at q
  cases h with
  | tup h1 h2 =>
    obtain ⟨hp, q⟩ := tR.ite q
    obtain ⟨k, hk⟩ := plK_key 8 _ hp
    exact ⟨_, k, rfl, hp, hk, q⟩
  | _ => exact q.elim
theorem key_is (I : Inv X pins σ H s) (A : At X g W) {x : D} {a : Addr} {k : NestedKey} (rx : RV g.K H ι x (.ref a)) (hk : x.key 8 = some k) : (nestedKind X.prog X.w).is s.heap k a := ⟨key_nested I A.K 8 _ _ _ _ rx rfl hk, key_depth 8 _ _ hk⟩
theorem room8 (A : At X g W) : (nestedKind X.prog X.w).room X.A.in1 := by
  have := A.un
  show X.A.units + 1 + 8 < cLine
  omega
/-- a dict is written -/
theorem dwrite {r : Nat} {a : Addr} {kvs kvs' : List (D × D)} {l : List DEnt} {xs' : List (NestedKey × Addr × Value)} {h' : Heap} {t' : Nat} (I : Inv X pins σ H s) (A : At X g W) (R : RS g.K g.T H ι st) (ha : ι[r]? = some a) (hc : st.get r = some (.dct kvs)) (ho : H a = some (DAo X.w a l)) (hs : (a == sysModules) = false)
    (hm : h'.DictOfH (nestedKind X.prog X.w) a xs') (sb : Heap.SameBut a s.heap h') (dx : DX g.K H ι kvs' xs') (hz : kvs'.length ≤ 100000) :
    ∃ H', Fw g.K H ι H' ι ∧ RS g.K g.T H' ι (st.put r (.dct kvs')) ∧ Inv X pins σ H' { s with heap := h', toks := t' } := by
  obtain ⟨l', k1, k2⟩ := dx.split
  obtain ⟨o, es, ep, h1, h2, h3, h4, _, h5⟩ := hm
  have da : DAt X.w a l' h' := ⟨xs', k2, o, es, ep, h1, h2, h3, h4, h5⟩
  have f := Fw.put (o := DAo X.w a l') R hc rfl ha
  refine ⟨_, f, R.write hc rfl ha ⟨l', by rw [← A.w]; exact upd_same, k1.imp fun r => r.fw f, hz⟩, ?_⟩
  refine I.write (e := a) (t' := t') (by rw [ho]; exact True.intro) (.inl rfl) (fun b u hb hu => (sb.2 b hb).trans hu) ⟨o, h1⟩ ⟨⟨da, hs⟩, ⟨o, h1⟩, fun a1 a2 p k => ⟨p.1.stay k, p.2⟩⟩
def inD (n : Bool) (x y : D) (s : S) : R D := onD y s fun _ kvs => onK x (.ok (.bl (if n then !(dfind x kvs).isSome else (dfind x kvs).isSome)) s)
theorem in_dct (A : At X g W) (n : Bool) : OpR X (compareOp (if n then .NotIn else .In)) (ro g (inD n)) := by
  intro pins s σ H x y v u Q I rx ry ⟨E, ι, dx, dy, st, R, qx, qy, q⟩
  obtain ⟨r, a, kvs, rfl, rfl, ha, hc, hp, q⟩ := onD_ok qy q
  obtain ⟨b, k, rfl, hx, hk, q⟩ := onK_ok qx q
  cases rx
  cases ry
  obtain ⟨l, xs, ho, hs, dx', hm, hz, hl⟩ := dct_at I A R ha hc
  obtain ⟨f1, f2⟩ := dfind_ok hx hk hp dx'
  have e : (atKey xs k).isSome = (dfind dx kvs).isSome := by
    cases hf : dfind dx kvs with
    | none => rw [f1 hf]; rfl
    | some y0 => obtain ⟨p, _, ep, _⟩ := f2 y0 hf; rw [ep]; rfl
  cases n with
  | false => exact wpAny_in_heap (room8 A) (key_is I A qx hk) hs hm ⟨.bl _, H, I.tok _, rfl, by rw [e]; exact tR.of q R (.bl _)⟩
  | true =>
    show wpAny (model X.prog X.w) X.A (do return Value.bool (!(← contains (.ref a) (.ref b)))) (EP X pins σ Q) X.xe s
    exact wpAny_bind (wpAny_contains_heap (room8 A) (key_is I A qx hk) hs hm (wpAny_pure ⟨.bl _, H, I.tok _, rfl, by rw [e]; exact tR.of q R (.bl _)⟩))
def ixD (x y : D) (s : S) : R D := onD x s fun _ kvs => onK y (match dfind y kvs with
  | some d => .ok d s
  | none => .no)
def dIxA (x y : D) (s : S) : R D := match x with
  | .dct _ => ixD x y s
  | _ => dIx x y s
theorem ix_any (A : At X g W) : IxR X (ro g dIxA) := by
  intro value slice pins s σ H x y v u Q I rx ry ⟨E, ι, dx, dy, st, R, qx, qy, q⟩ hs0
  by_cases hd : ∃ r, dx = .dct r
  · obtain ⟨r0, rfl⟩ := hd
    obtain ⟨r, a, kvs, e0, rfl, ha, hc, hp, q⟩ := onD_ok qx (show tRe g E (ixD (.dct r0) dy st) H ι Q from q)
    obtain ⟨b, k, rfl, hx, hk, q⟩ := onK_ok qy q
    cases rx
    cases ry
    obtain ⟨l, xs, ho, hs, dx', hm, hz, hl⟩ := dct_at I A R ha hc
    obtain ⟨f1, f2⟩ := dfind_ok hx hk hp dx'
    cases hf : dfind dy kvs with
    | none => rw [hf] at q; exact q.elim
    | some y0 =>
      rw [hf] at q
      obtain ⟨p, w, ep, rw', rl⟩ := f2 y0 hf
      exact tail_any hm.typeIs slot_dict_getitem.lookup (wpAny_getItem_heap (room8 A) (key_is I A qy hk) hm ep ⟨w, H, I.tok _, rl, tR.of q R rw'⟩) hs0
  · have e : dIxA dx dy st = dIx dx dy st := by
      unfold dIxA
      cases dx with
      | dct r => exact absurd ⟨r, rfl⟩ hd
      | _ => rfl
    rw [e] at q
    exact ix_all A value slice pins s σ H x y v u Q I rx ry ⟨E, ι, dx, dy, st, R, qx, qy, q⟩ hs0
def putS (r : Nat) (kvs : List (D × D)) (x y : D) (s : S) : R Unit := if kvs.length < 99999 then .ok () (s.put r (.dct (dput kvs x y))) else .no
theorem dput_len (kvs : List (D × D)) (x y : D) : (dput kvs x y).length ≤ kvs.length + 1 := by
  unfold dput
  split
  · rw [List.length_map]; omega
  · simp
theorem put_run {r : Nat} {a b : Addr} {kvs : List (D × D)} {x y : D} {k : NestedKey} {v : V} {u : Value} {Nx : Hp → Prop} (I : Inv X pins σ H s) (A : At X g W) (R : RS g.K g.T H ι st) (ha : ι[r]? = some a) (hc : st.get r = some (.dct kvs)) (hp : plKs kvs = true)
    (hx : plK 8 x = true) (hk : x.key 8 = some k) (rx : RV g.K H ι x (.ref b)) (ry : RV g.K H ι y v) (ru : RelV v u) (q : tR g E (fun _ _ (_ _ : Unit) => True) (putS r kvs x y st) H ι (fun _ H' => Nx H')) :
    ∃ l xs, (nestedKind X.prog X.w).room X.A.in1 ∧ (nestedKind X.prog X.w).is s.heap k b ∧ s.heap.DictOfH (nestedKind X.prog X.w) a xs ∧ xs.length ≤ sizeLine ∧ H a = some (DAo X.w a l) ∧
      ∀ h' t', h'.DictOfH (nestedKind X.prog X.w) a (storedH xs k b u) → Heap.SameBut a s.heap h' → ∃ H', Inv X pins σ H' { s with heap := h', toks := t' } ∧ Nx H' := by
  obtain ⟨l, xs, ho, hs, dx', hm, hz, hl⟩ := dct_at I A R ha hc
  unfold putS at q
  obtain ⟨hl2, q⟩ := tR.ite q
  refine ⟨l, xs, room8 A, key_is I A rx hk, hm, by rw [hl, sizeLine_eq]; omega, ho, fun h' t' hm' sb => ?_⟩
  have := dput_len kvs x y
  obtain ⟨H', f, R', I'⟩ := dwrite (t' := t') I A R ha hc ho hs hm' sb (dput_ok hx hk rx ry ru hp dx') (by omega)
  exact ⟨H', I', q () H' ι f R' trivial⟩
def stD (x y d : D) (s : S) : R Unit := onD x s fun r kvs => onK y (putS r kvs y d s)
def stA (x y d : D) (s : S) : R Unit := match x with
  | .dct _ => stD x y d s
  | _ => stL x y d s
def rstA (g : Cfg) : TSet := fun x y v H Q => ∃ E ι dx dy d s, RS g.K g.T H ι s ∧ RV g.K H ι dx x ∧ RV g.K H ι dy y ∧ RV g.K H ι d v ∧ tR g E (fun _ _ _ _ => True) (stA dx dy d s) H ι (fun (_ : Unit) H' => Q H')
theorem set_any (A : At X g W) : PSet X (rstA g) := by
  intro pins s σ H o i v ov iv u Q I ro ri rv ⟨E, ι, dx, dy, d, st, R, rx, ry, rd, h⟩
  by_cases hd : ∃ r, dx = .dct r
  · obtain ⟨r0, rfl⟩ := hd
    obtain ⟨r, a, kvs, e0, rfl, ha, hc, hp, q⟩ := onD_ok rx (show tR g E _ (stD (.dct r0) dy d st) H ι _ from h)
    obtain ⟨b, k, rfl, hx, hk, q⟩ := onK_ok ry q
    cases ro
    cases ri
    obtain ⟨l, xs, k1, k2, k3, k4, _, k5⟩ := put_run I A R ha hc hp hx hk ry rd rv q
    refine wpAny_setItem_heap (hsz := k4) k1 k2 k3 fun h' hm' sb => ?_
    obtain ⟨H', I', nx⟩ := k5 h' _ hm' sb
    exact ⟨H', I', nx⟩
  · have e : stA dx dy d st = stL dx dy d st := by
      unfold stA
      cases dx with
      | dct r => exact absurd ⟨r, rfl⟩ hd
      | _ => rfl
    rw [e] at h
    exact set_all pins s σ H o i v ov iv u Q I ro ri rv ⟨E, ι, dx, dy, d, st, R, rx, ry, rd, h⟩
theorem new_dct (I : Inv X pins σ H s) (A : At X g W) (R : RS g.K g.T H ι st) (t' : Nat) : let p := s.heap.objs.size
    let h' := s.heap.push { cls := .type "dict", data := .dict #[] }
    H p = none ∧ Fw g.K H ι (upd H p (DAo X.w p [])) (ι ++ [p]) ∧ RS g.K g.T (upd H p (DAo X.w p [])) (ι ++ [p]) (st.new (.dct [])) ∧ Inv X pins σ (upd H p (DAo X.w p [])) { s with heap := h', toks := t' } ∧ RV g.K (upd H p (DAo X.w p [])) (ι ++ [p]) (.dct st.n) (.ref p) := by
  intro p h'
  have hn : H p = none := I.hok.fresh (Nat.le_refl _)
  have hs : (p == sysModules) = false := beq_eq_false_iff_ne.mpr (Ne.symm (Nat.ne_of_lt I.big))
  refine ⟨hn, Fw.newA hn, R.alloc hn ⟨[], by rw [← A.w]; exact upd_same, .nil, Nat.zero_le _⟩, ?_, .dct (by rw [← R.len]; simp)⟩
  refine I.laid (t' := t') (fun b o e => Heap.get?_push_of_some _ e) (Nat.le_refl _) ⟨⟨⟨[], .nil, _, #[], 0, Heap.get?_push_size _ rfl, ⟨rfl, rfl, rfl⟩, rfl, rfl, List.nodup_nil⟩, hs⟩, ⟨_, Heap.get?_push_size _ rfl⟩, fun a1 a2 q k => ⟨q.1.stay k, q.2⟩⟩
def mNewD : ME := fun _ _ s => .ok (.dct s.n) (s.new (.dct []))
theorem e_newD (A : At X g W) {pos : Pos} : PE X (.Dict [] [] pos) (te g W mNewD) := ⟨fun pins s σ H Q I ⟨ι, e, st, R, q, h⟩ => by
  obtain ⟨k0, k1, k2, k3, k4⟩ := new_dct I A R s.toks
  exact wpAny_Dict_empty ⟨.ref s.heap.objs.size, _, k3, rfl, h _ _ _ k1 k2 k4⟩⟩
def dcK : Option Cell → Option (List D)
  | some (.dct kvs) => some (kvs.map (·.1))
  | _ => none
theorem c_srtD (A : At X g W) : CallR X (.builtin "sorted") (fun vs H Q => ∃ E ι st r a, vs = [.ref a] ∧ RS g.K g.T H ι st ∧ ι[r]? = some a ∧ tRe g E (seqO srtL st (dcK (st.get r))) H ι Q) := by
  intro pins s σ H vs us Q I r ⟨E, ι, st, j, a, ev, R, ha, q⟩
  subst ev
  obtain ⟨u, rfl, ru⟩ := vals1 r
  cases ru
  cases hc : st.get j with
  | none => rw [hc] at q; exact q.elim
  | some c =>
    rw [hc] at q
    cases c with
    | dct kvs =>
      obtain ⟨l, xs, ho, hs, dx, hm, hz, hl⟩ := dct_at I A R ha hc
      obtain ⟨o, es, ep, h1, h2, h3, h4, _, h5⟩ := hm
      have el : es.size = kvs.length := by
        have := congrArg List.length h4
        rw [Array.length_toList, List.length_map] at this
        omega
      have rk : ∃ zs, Vals zs (es.toList.map (·.key)) ∧ RVs g.K H ι (kvs.map (·.1)) zs := by
        rw [h4, List.map_map]
        have go : ∀ {kvs : List (D × D)} {xs : List (NestedKey × Addr × Value)}, DX g.K H ι kvs xs → ∃ zs, Vals zs (xs.map ((·.key) ∘ entryOfKey (nestedKind X.prog X.w))) ∧ RVs g.K H ι (kvs.map (·.1)) zs := fun {kvs xs} h => by
          unfold DX at h
          induction h with
          | nil => exact ⟨[], .nil, .nil⟩
          | @cons p q ps qs h _ ih =>
            obtain ⟨zs, i1, i2⟩ := ih
            exact ⟨.ref q.2.1 :: zs, .cons rfl i1, .cons h.2.1 i2⟩
        exact go dx
      obtain ⟨zs, k1, k2⟩ := rk
      have hz' : (es.toList.map (·.key)).length ≤ sizeLine := by rw [List.length_map, Array.length_toList, el, sizeLine_eq]; omega
      exact srt_ok I A R (fun A' E2 Q2 hh h2' => EVS.gath_dict hs ⟨o, h1, h2, h3⟩ (by rw [el, sizeLine_eq]; omega) A' E2 Q2 hh fun s' us k g' o' e => h2' s' us k g' o' (by subst e; exact ⟨_, zs, k1, k2, hz', rfl⟩)) q
    | lst l => exact q.elim
    | frz l => exact q.elim
    | fdc l => exact q.elim
    | dci l => exact q.elim
    | fdi l => exact q.elim
    | set kd l => exact q.elim
    | sn l => exact q.elim
    | crn k tr => exact q.elim
    | urn tr => exact q.elim
/-- sorted(x) -/
def bSrtA : List D → S → R D
  | [.set r], s => srtC s (s.get r)
  | [.dct r], s => seqO srtL s (dcK (s.get r))
  | ds, s => bSrt ds s
theorem c_srtA (A : At X g W) : CallR X (.builtin "sorted") (rc g bSrtA) := by
  intro pins s σ H xs us Q I r ⟨E, ι, ds, st, R, rv, q⟩
  unfold bSrtA at q
  split at q
  · cases rv with
    | cons r1 r2 =>
      cases r2
      cases r1 with
      | set h1 => exact c_srtSet A pins s σ H _ us Q I r ⟨E, ι, st, _, _, rfl, R, h1, q⟩
  · cases rv with
    | cons r1 r2 =>
      cases r2
      cases r1 with
      | dct h1 => exact c_srtD A pins s σ H _ us Q I r ⟨E, ι, st, _, _, rfl, R, h1, q⟩
  · exact c_srt A pins s σ H xs us Q I r ⟨E, ι, ds, st, R, rv, q⟩
end
end EV
namespace EV
open L2 PySem PySem.Spec PyProof.Rows EVC PySem.SeqAt
def smallP : PyData → Bool
  | .str x => decide (x.length ≤ 100000)
  | .list xs => decide (xs.length ≤ 100000)
  | .tuple xs => decide (xs.length ≤ 100000)
  | _ => true
theorem smallP_fits {p : PyData} (h : smallP p = true) : p.fits63 := by
  cases p with
  | str x => have := of_decide_eq_true h; show (x.length : Int) < 2 ^ 63; omega
  | list x => have := of_decide_eq_true h; show (x.length : Int) < 2 ^ 63; omega
  | tuple x => have := of_decide_eq_true h; show (x.length : Int) < 2 ^ 63; omega
  | _ => trivial
theorem plain_tup {ps : List PyData} (h : (PyData.tuple ps).canLay0 = true) : PyData.plainAll ps = true := PyData.plainAll_of_canLay0 ps (by simpa [PyData.canLay0] using h)
theorem plain_lst {ps : List PyData} (h : (PyData.list ps).canLay0 = true) : PyData.plainAll ps = true := PyData.plainAll_of_canLay0 ps (by simpa [PyData.canLay0] using h)
theorem lay_tup {ps : List PyData} (h : (PyData.tuple ps).canLay0 = true) : PyData.canLayAll0 ps = true := by simpa [PyData.canLay0] using h
theorem lay_lst {ps : List PyData} (h : (PyData.list ps).canLay0 = true) : PyData.canLayAll0 ps = true := by simpa [PyData.canLay0] using h
section
variable {X : Cx} {g : Cfg} {E : XK} {W : WX}
def boolsP (f : List PyData → Bool) (s : S) : Option PyData → R D
  | some (.tuple ps) => if ps.all smallP = true then .ok (.bl (f ps)) s else .no
  | some (.list ps) => if ps.all smallP = true then .ok (.bl (f ps)) s else .no
  | _ => .no
def bAllA : List D → S → R D
  | [d], s => boolsP (fun ps => ps.all PyData.truthy) s (toPy s 16 d)
  | _, _ => .no
def bAnyA : List D → S → R D
  | [d], s => boolsP (fun ps => ps.any PyData.truthy) s (toPy s 16 d)
  | _, _ => .no
theorem c_anyA (A : At X g W) : CallR X (.builtin "any") (rc g bAnyA) := by
  intro pins s σ H xs us Q I r ⟨E, ι, ds, st, R, rv, q⟩
  unfold bAnyA at q
  split at q
  · rename_i d
    cases rv with
    | cons r1 r2 =>
      cases r2
      obtain ⟨u, rfl, ru⟩ := vals1 r
      cases hp : toPy st 16 d with
      | none => rw [hp] at q; exact q.elim
      | some p =>
        rw [hp] at q
        obtain ⟨as, rd⟩ := Dp.reads I _ _ _ (by rw [A.K]; exact toPy_dp R 16 _ _ _ r1 hp) ru
        have lay := (toPy_shape 16 _ _ hp).1
        unfold boolsP at q
        split at q
        · rename_i ps e
          cases e
          obtain ⟨hs, q⟩ := tR.ite q
          cases rd with
          | tuple h1 h2 h3 h4 => exact PySem.W.any_tuple_data (I.ok.hd A.calm) ⟨_, h1, h2, _, h3⟩ h4 (plain_tup lay) (fun x hx => smallP_fits (List.all_eq_true.mp hs x hx)) fun h' tk k => ⟨.bl _, H, I.kept k, rfl, tR.of q R (.bl _)⟩
        · rename_i ps e
          cases e
          obtain ⟨hs, q⟩ := tR.ite q
          cases rd with
          | list h1 h2 h3 h4 => exact PySem.W.any_list_data (I.ok.hd A.calm) ⟨_, h1, h2, _, h3⟩ h4 (plain_lst lay) (fun x hx => smallP_fits (List.all_eq_true.mp hs x hx)) fun h' tk k => ⟨.bl _, H, I.kept k, rfl, tR.of q R (.bl _)⟩
        · exact q.elim
  · exact q.elim
theorem c_allA (A : At X g W) : CallR X (.builtin "all") (rc g bAllA) := by
  intro pins s σ H xs us Q I r ⟨E, ι, ds, st, R, rv, q⟩
  unfold bAllA at q
  split at q
  · rename_i d
    cases rv with
    | cons r1 r2 =>
      cases r2
      obtain ⟨u, rfl, ru⟩ := vals1 r
      cases hp : toPy st 16 d with
      | none => rw [hp] at q; exact q.elim
      | some p =>
        rw [hp] at q
        obtain ⟨as, rd⟩ := Dp.reads I _ _ _ (by rw [A.K]; exact toPy_dp R 16 _ _ _ r1 hp) ru
        have lay := (toPy_shape 16 _ _ hp).1
        unfold boolsP at q
        split at q
        · rename_i ps e
          cases e
          obtain ⟨hs, q⟩ := tR.ite q
          cases rd with
          | tuple h1 h2 h3 h4 => exact PySem.W.all_tuple_data (I.ok.hd A.calm) ⟨_, h1, h2, _, h3⟩ h4 (plain_tup lay) (fun x hx => smallP_fits (List.all_eq_true.mp hs x hx)) fun h' tk k => ⟨.bl _, H, I.kept k, rfl, tR.of q R (.bl _)⟩
        · rename_i ps e
          cases e
          obtain ⟨hs, q⟩ := tR.ite q
          cases rd with
          | list h1 h2 h3 h4 => exact PySem.W.all_list_data (I.ok.hd A.calm) ⟨_, h1, h2, _, h3⟩ h4 (plain_lst lay) (fun x hx => smallP_fits (List.all_eq_true.mp hs x hx)) fun h' tk k => ⟨.bl _, H, I.kept k, rfl, tR.of q R (.bl _)⟩
        · exact q.elim
  · exact q.elim
def inP (n : Bool) (s : S) : Option PyData → Option PyData → R D
  | some p, some (.tuple ps) => .ok (.bl (if n then !(ps.any fun y => PyData.eqv y p) else ps.any fun y => PyData.eqv y p)) s
  | some p, some (.list ps) => .ok (.bl (if n then !(ps.any fun y => PyData.eqv y p) else ps.any fun y => PyData.eqv y p)) s
  | _, _ => .no
def inA (n : Bool) (x y : D) (s : S) : R D := match y with
  | .dct _ => inD n x y s
  | y => inP n s (toPy s 16 x) (toPy s 16 y)
theorem in_any (A : At X g W) (n : Bool) : OpR X (compareOp (if n then .NotIn else .In)) (ro g (inA n)) := by
  intro pins s σ H x y v u Q I rx ry ⟨E, ι, dx, dy, st, R, qx, qy, q⟩
  have hu := A.un
  have gen : tRe g E (inP n st (toPy st 16 dx) (toPy st 16 dy)) H ι Q → wpAny (model X.prog X.w) X.A (compareOp (if n then .NotIn else .In) v u) (EP X pins σ Q) X.xe s := fun q => by
    cases ex : toPy st 16 dx with
    | none => rw [ex] at q; exact q.elim
    | some p =>
      cases ey : toPy st 16 dy with
      | none => rw [ex, ey] at q; exact q.elim
      | some c =>
        rw [ex, ey] at q
        obtain ⟨as, r1⟩ := Dp.reads I p x v (by rw [A.K]; exact toPy_dp R 16 _ _ _ qx ex) rx
        obtain ⟨bs, r2⟩ := Dp.reads I c y u (by rw [A.K]; exact toPy_dp R 16 _ _ _ qy ey) ry
        have sx := toPy_shape 16 _ _ ex
        have sy := toPy_shape 16 _ _ ey
        unfold inP at q
        split at q
        · rename_i p' ps e1 e2
          cases e1
          cases e2
          have hd : X.A.units + 1 + min (PyData.depthAll ps) p.depth < cLine := by
            have : min (PyData.depthAll ps) p.depth ≤ 16 := Nat.le_trans (Nat.min_le_right _ _) sx.2
            omega
          cases n with
          | false => exact in_tuple_reads r2 r1 (lay_tup sy.1) sx.1 hd ⟨.bl _, H, I, rfl, tR.of q R (.bl _)⟩
          | true => exact notIn_tuple_reads r2 r1 (lay_tup sy.1) sx.1 hd ⟨.bl _, H, I, rfl, tR.of q R (.bl _)⟩
        · rename_i p' ps e1 e2
          cases e1
          cases e2
          have hd : X.A.units + 1 + min (PyData.depthAll ps) p.depth < cLine := by
            have : min (PyData.depthAll ps) p.depth ≤ 16 := Nat.le_trans (Nat.min_le_right _ _) sx.2
            omega
          cases n with
          | false => exact in_list_reads r2 r1 (lay_lst sy.1) sx.1 hd ⟨.bl _, H, I, rfl, tR.of q R (.bl _)⟩
          | true => exact notIn_list_reads r2 r1 (lay_lst sy.1) sx.1 hd ⟨.bl _, H, I, rfl, tR.of q R (.bl _)⟩
        · exact q.elim
  by_cases hd : ∃ r, dy = .dct r
  · obtain ⟨r, rfl⟩ := hd
    exact in_dct A n pins s σ H x y v u Q I rx ry ⟨E, ι, dx, .dct r, st, R, qx, qy, q⟩
  · have e : inA n dx dy st = inP n st (toPy st 16 dx) (toPy st 16 dy) := by
      unfold inA
      cases dy with
      | dct r => exact absurd ⟨r, rfl⟩ hd
      | _ => rfl
    rw [e] at q
    exact gen q
def bLcm : List D → S → R D
  | [.int i, .int j], s => if i.natAbs < 2 ^ 64 ∧ j.natAbs < 2 ^ 64 then .ok (.int ((i.natAbs.lcm j.natAbs : Nat) : Int)) s else .no
  | _, _ => .no
theorem c_lcm : CallR X (.builtin "math.lcm") (rc g bLcm) := by
  intro pins s σ H xs us Q I r ⟨E, ι, ds, st, R, rv, q⟩
  unfold bLcm at q
  split at q
  · rename_i i j
    obtain ⟨⟨h1, h2⟩, q⟩ := tR.ite q
    cases rv with
    | cons r1 r2 =>
      cases r2 with
      | cons r2 r3 =>
        cases r3
        cases r1
        cases r2
        obtain ⟨t, u, rfl⟩ := Vals.int2 r
        exact PySem.W.mc_lcm h1 h2 fun _ => ⟨.int _, H, I.tok _, ⟨_, rfl⟩, tR.of q R (.int _)⟩
  · exact q.elim
theorem tuple_mul1 (l : Addr) (items : Array Value) (n : Nat) (dd : Option Addr) (sl : Array (Option Value)) (x : Int) (u : Tok) (c0 : (decide (x < -(2 ^ 63)) || decide (x ≥ 2 ^ 63)) = false) (c1 : (items.isEmpty || x == 1) = true) :
    Meets (Builtin.«tuple.__mul__» ⟨[.ref l, .int x u], []⟩) (fun _ R s => s.heap.get? l = some { cls := .type "tuple", dict := dd, data := .seq items n, slots := sl } ∧ R (.ok (.ret (Value.ref l))) s) :=
  .of_wp fun prog w A R s h => by
    obtain ⟨hp, g, d, tk, os⟩ := s
    obtain ⟨hl, h⟩ := h
    have f1 := AutoSeq1.idx_int
    wp_walk using wpAny_loadPart' hl
    repeat (first
      | (refine wpAny_ite_false (decide_eq_false (by rw [c0]; exact Bool.false_ne_true)) ?_; wp_walk using wpAny_loadPart' hl)
      | (refine wpAny_ite_true (decide_eq_true (by rw [c1])) ?_; wp_walk using wpAny_loadPart' hl))
    exact ⟨_, rfl, h⟩
theorem tuple_mul0 (l : Addr) (items : Array Value) (n : Nat) (dd : Option Addr) (sl : Array (Option Value)) (x : Int) (u : Tok) (c0 : (decide (x < -(2 ^ 63)) || decide (x ≥ 2 ^ 63)) = false) (c1 : (items.isEmpty || x == 1) = false) (c2 : (decide (x ≤ 0) || items.isEmpty) = true) :
    Meets (Builtin.«tuple.__mul__» ⟨[.ref l, .int x u], []⟩) (fun _ R s => s.heap.get? l = some { cls := .type "tuple", dict := dd, data := .seq items n, slots := sl } ∧
      R (.ok (.ret (Value.ref s.heap.objs.size))) { s with heap := s.heap.push { cls := Value.type "tuple", data := Data.seq #[] }, toks := s.toks }) :=
  .of_wp fun prog w A R s h => by
    obtain ⟨hp, g, d, tk, os⟩ := s
    obtain ⟨hl, h⟩ := h
    have f1 := AutoSeq1.idx_int
    wp_walk using wpAny_loadPart' hl
    repeat (first
      | (refine wpAny_ite_false (decide_eq_false (by rw [c0]; exact Bool.false_ne_true)) ?_; wp_walk using wpAny_loadPart' hl)
      | (refine wpAny_ite_false (decide_eq_false (by rw [c1]; exact Bool.false_ne_true)) ?_; wp_walk using wpAny_loadPart' hl)
      | (refine wpAny_ite_true (decide_eq_true (by rw [c2])) ?_; wp_walk using wpAny_loadPart' hl))
    exact ⟨_, rfl, h⟩
def rRep01 (K : PySem.W.Frag) : R2 := fun x y H Q => ∃ l k xs, x = .ref l ∧ y = .int k ∧ SqT K H l xs ∧ -(2 ^ 62) ≤ k ∧ ((k = 1 ∧ Q (.ref l) H) ∨ (k ≤ 0 ∧ (xs = [] → Q (.ref l) H) ∧ ∀ p, H p = none → Q (.ref p) (upd H p (.tup []))))
theorem op_rep01 : OpR X (binaryOp .Mult) (rRep01 X.K) := by
  intro pins s σ H x y v u Q I rx ry h
  obtain ⟨l, k, xs, rfl, rfl, hT, hk, q⟩ := h
  cases rx
  obtain ⟨t, rfl⟩ := ry
  obtain ⟨its, r, ⟨⟨cls, dd, data, sl⟩, ho, hc, n, hd⟩, hs⟩ := I.tuple hT
  simp only at hc hd
  subst hc hd
  have k1 : k ≤ 1 := by rcases q with ⟨e, _⟩ | ⟨e, _⟩ <;> omega
  have c0 : (decide (k < -(2 ^ 63)) || decide (k ≥ 2 ^ 63)) = false := by
    rw [decide_eq_false (by omega), decide_eq_false (by omega)] <;> rfl
  have run : ∀ {f : Builtin → Prop}, True := fun {_} => trivial
  by_cases hc1 : (its.toArray.isEmpty || k == 1) = true
  · refine wpAny_binaryOp_repeat_ref (T := "tuple") (U := "int") (by decide) ⟨_, ho, rfl⟩ (fun s' => typeIs_int s' k t) noFill_tuple_mul F.fills_int_mul F.slot_int_rmul repeat_tuple F.slot_int_index.lookup
      (call_meets F.slot_int_rmul (typeIs_int s k t) F.entry_int_rmul (F.args_int_rmul_2 _ _) (int_rmul_tuple k t l its.toArray n dd sl)
        ⟨ho, rfl, ⟨_, ho, rfl⟩, call_meets F.slot_tuple_mul ⟨_, ho, rfl⟩ F.entry_tuple_mul (F.args_tuple_mul_2 _ _) (tuple_mul1 l its.toArray n dd sl k t c0 hc1) ⟨ho, ?_⟩⟩)
    refine ⟨.ref l, H, I, rfl, ?_⟩
    rcases q with ⟨_, q⟩ | ⟨e, q, _⟩
    · exact q
    · refine q ?_
      rw [Bool.or_eq_true] at hc1
      rcases hc1 with hc1 | hc1
      · cases its with
        | nil => exact List.eq_nil_of_length_eq_zero r.length
        | cons a b => cases hc1
      · have := beq_iff_eq.mp hc1
        omega
  · have hc1' : (its.toArray.isEmpty || k == 1) = false := by
      cases h : (its.toArray.isEmpty || k == 1) with
      | true => exact absurd h hc1
      | false => rfl
    rcases q with ⟨e, _⟩ | ⟨e, _, q⟩
    · subst e
      exact absurd (by simp) hc1
    refine wpAny_binaryOp_repeat_ref (T := "tuple") (U := "int") (by decide) ⟨_, ho, rfl⟩ (fun s' => typeIs_int s' k t) noFill_tuple_mul F.fills_int_mul F.slot_int_rmul repeat_tuple F.slot_int_index.lookup
      (call_meets F.slot_int_rmul (typeIs_int s k t) F.entry_int_rmul (F.args_int_rmul_2 _ _) (int_rmul_tuple k t l its.toArray n dd sl)
        ⟨ho, rfl, ⟨_, ho, rfl⟩, call_meets F.slot_tuple_mul ⟨_, ho, rfl⟩ F.entry_tuple_mul (F.args_tuple_mul_2 _ _) (tuple_mul0 l its.toArray n dd sl k t c0 hc1' (by rw [decide_eq_true e]; rfl)) ⟨ho, ?_⟩⟩)
    exact ⟨.ref s.heap.objs.size, _, I.laid (t' := s.toks) (o := .tup []) (fun b ob q => Heap.get?_push_of_some _ q) (Nat.le_refl _) ⟨by simp, [], .nil, IsTup.new _ _⟩, rfl, q _ (I.hok.fresh (Nat.le_refl _))⟩
def mulT (l : List D) (k : Int) (s : S) : R D := if k = 1 then .ok (.tup l) s else if k ≤ 0 then (if -(2 ^ 62) ≤ k then .ok (.tup []) s else .no) else dMul (.tup l) (.int k) s
def dMulA (x y : D) (s : S) : R D := match x, y with
  | .tup l, .int k => mulT l k s
  | _, _ => dMul x y s
theorem o_mulA (A : At X g W) : OpR X (binaryOp .Mult) (ro g dMulA) := by
  intro pins s σ H x y v u Q I rx ry ⟨E, ι, dx, dy, st, R, qx, qy, q⟩
  have gen : tRe g E (dMul dx dy st) H ι Q → wpAny (model X.prog X.w) X.A (binaryOp .Mult v u) (EP X pins σ Q) X.xe s := fun q => o_mul A pins s σ H x y v u Q I rx ry ⟨E, ι, dx, dy, st, R, qx, qy, q⟩
  by_cases hd : ∃ l k, dx = .tup l ∧ dy = .int k
  · obtain ⟨l, k, rfl, rfl⟩ := hd
    change tRe g E (mulT l k st) H ι Q at q
    unfold mulT at q
    cases qx with
    | @tup a _ xs h1 h2 =>
      cases qy
      by_cases k1 : k = 1
      · rw [if_pos k1] at q
        exact op_rep01 pins s σ H _ _ v u Q I rx ry ⟨a, k, xs, rfl, rfl, by rw [A.K]; exact h1, by omega, .inl ⟨k1, tR.of q R (.tup h1 h2)⟩⟩
      · rw [if_neg k1] at q
        by_cases k0 : k ≤ 0
        · rw [if_pos k0] at q
          obtain ⟨kl, q⟩ := tR.ite q
          refine op_rep01 pins s σ H _ _ v u Q I rx ry ⟨a, k, xs, rfl, rfl, by rw [A.K]; exact h1, kl, .inr ⟨k0, fun e => ?_, fun p hp => q _ _ _ (Fw.new hp) (R.new hp) (.tup (.inl (.inl upd_same)) .nil)⟩⟩
          subst e
          exact tR.of q R (.tup h1 .nil)
        · rw [if_neg k0] at q
          exact o_mul A pins s σ H _ _ v u Q I rx ry ⟨E, ι, _, _, st, R, .tup h1 h2, .int k, q⟩
  · have e : dMulA dx dy st = dMul dx dy st := by
      unfold dMulA
      split
      · exact absurd ⟨_, _, rfl, rfl⟩ hd
      · rfl
    rw [e] at q
    exact gen q
end
end EV
namespace EVE
open L2 PySem PySem.Spec PyProof.Rows
theorem meets_enum1 {v : Value} {o : Obj} {H : Heap → Prop} (B : Begins v o H) :
    Meets (Builtin.«enumerate.__new__» ⟨[.type "enumerate", v], []⟩) (fun _ R s => H s.heap ∧
      R (.ok (.ret (.ref (s.heap.push o).objs.size))) { s with heap := (s.heap.push o).push { cls := .type "enumerate", data := .fields #[.none, .bool false, .ref s.heap.objs.size, rawInt 0, .none, .none] } }) :=
  .of_wp fun prog w A R s h => by
    obtain ⟨hp, g, d, tk, os⟩ := s; obtain ⟨h1, h⟩ := h
    have hsub := sub_enumerate
    have q1 : ∀ {A' : Around} {E : Value → Shared → Prop} {Q : Value → Shared → Prop}, Q (.ref hp.objs.size) ⟨hp.push o, g, d, tk, os⟩ → wpAny (model prog w) A' (pyIter v) Q E ⟨hp, g, d, tk, os⟩ :=
      fun q => B.iter prog w _ _ ⟨hp, g, d, tk, os⟩ _ h1 q
    wp_walk using q1
    refine wpAny_stack_any fun st => wpAny_pure ?_
    split
    · rename_i c _ _ _ _ _
      cases (c == Value.type "enumerate")
      · wp_walk using q1
        exact ⟨_, rfl, h⟩
      · wp_walk using q1
        exact ⟨_, rfl, h⟩
    · wp_walk using q1
      exact ⟨_, rfl, h⟩
theorem enum_begins1 {prog : Program} {w : World} {A : Around} {E : Value → Shared → Prop} {s : Shared} {v : Value} {o : Obj} {H : Heap → Prop} {Q : Value → Shared → Prop} (B : Begins v o H) (h1 : H s.heap)
    (h : ∀ h', IsEnum h' (s.heap.objs.size + 1) s.heap.objs.size 0 .none → h'.get? s.heap.objs.size = some o → h'.objs.size = s.heap.objs.size + 2 →
      (∀ b o, s.heap.get? b = some o → h'.get? b = some o) → Q (.ref (s.heap.objs.size + 1)) { s with heap := h' }) :
    wpAny (model prog w) A (call (.type "enumerate") [v]) Q E s := by
  refine callType_new PySem.F.called_enumerate (by decide) (PySem.F.typeCall_enumerate_1 _) (PySem.F.newCall_enumerate_1 _) (fun obj => PySem.F.args_object_init_2 obj _) PySem.F.entry_enumerate_new
    (meets_enum1 B) ⟨h1, ?_⟩
  have hz : (s.heap.push o).objs.size = s.heap.objs.size + 1 := Heap.size_push ..
  show _ ∧ _
  rw [hz]
  have he : IsEnum ((s.heap.push o).push { cls := .type "enumerate", data := .fields #[.none, .bool false, .ref s.heap.objs.size, rawInt 0, .none, .none] }) (s.heap.objs.size + 1) s.heap.objs.size 0 .none := by
    have := Heap.get?_push_size (s.heap.push o) (o := { cls := .type "enumerate", data := .fields #[.none, .bool false, .ref s.heap.objs.size, rawInt 0, .none, .none] }) rfl
    rw [hz] at this; exact this
  refine ⟨⟨_, he, rfl⟩, h _ he (Heap.get?_push_of_some _ (Heap.get?_push_size _ B.free)) (by rw [Heap.size_push, hz]) fun b o x => Heap.get?_push_of_some _ (Heap.get?_push_of_some _ x)⟩
def IteT (K : PySem.W.Frag) (a : Addr) : It :=
  ⟨fun i H => ∃ (xs : List V) (x : V), SqT K H a xs ∧ xs[i]? = some x, fun i H v H' => ∃ T x, v = .ref T ∧ H T = none ∧ H' = upd H T (.tup [.int (i : Nat), x]) ∧ ∀ xs, SqT K H a xs → xs[i]? = some x, fun i H => ∃ xs : List V, SqT K H a xs ∧ xs.length ≤ i⟩
theorem turn_enumT {P : Program} {w : World} {K : PySem.W.Frag} {elts : List Expr} {kk : Nat} {tpos : Pos} (a e it : Addr) :
    Turn P w K (.Tuple elts kk tpos) (IteT K a) [e, it] e (fun i h => (∃ old, IsEnum h e it ((i : Nat) : Int) old) ∧ h.IsTupleIter it a i ∧ e ≠ it) where
  mem := by simp
  obj := fun i h st b hb => by
    obtain ⟨⟨old, he⟩, ⟨o, ho, hc, hd⟩, _⟩ := st
    have e' : b = e ∨ b = it := by simpa using hb
    rcases e' with z | z
    · rw [z]; exact ⟨_, he, fun v q => nomatch q⟩
    · rw [z]; exact ⟨o, ho, fun v q => by rw [hd] at q; cases q⟩
  keep := fun i h h' st k => let ⟨⟨old, he⟩, hi, hne⟩ := st; ⟨⟨old, k e (by simp) _ he⟩, hi.at fun o q => k it (by simp) o q, hne⟩
  item := by
    intro X hP hw hK hc i pins s σ H E I hf st hg
    subst hP hw hK
    obtain ⟨⟨old, he⟩, hit, hne⟩ := st
    obtain ⟨xs, x, hq, hx⟩ := hg
    obtain ⟨its, rv, p, hz⟩ := I.tuple hq
    obtain ⟨u, hu, ru⟩ := rv.get hx
    have hel : e < s.heap.objs.size := Heap.lt_size he
    have hil : it < s.heap.objs.size := by obtain ⟨_, q, _⟩ := hit; exact Heap.lt_size q
    have pt : s.heap.IsTuple a its.toArray := p
    have hlt : i < its.toArray.size := by
      have := (List.getElem?_eq_some_iff.mp hu).1
      simpa using this
    have nt : ∀ {c : Addr} {o : Obj}, s.heap.get? c = some o → o.cls ≠ .type "tuple" → a ≠ c := fun {c o} q hn z => by
      obtain ⟨o2, h2, c2, _⟩ := pt
      rw [z, q] at h2
      cases h2
      exact hn c2
    have hai : a ≠ it := by
      obtain ⟨o, ho, hc2, hd⟩ := hit
      exact nt ho (by rw [hc2]; decide)
    have hae : a ≠ e := nt he (by show Value.type "enumerate" ≠ Value.type "tuple"; decide)
    refine wpAny_pyNext_enum_itemD (Draws.tuple (A := X.A.in1) (I.ok.hd hc) it a hai its.toArray) he ⟨hit, pt⟩ hlt hne (by simp; exact ⟨hne, Ne.symm hae⟩) fun x' h' tk hx' ho hit' hT hsz hk => ?_
    have ex : x' = u := by
      have : its.toArray[i]? = some u := by simpa using hu
      rw [this] at hx'
      exact (Option.some.inj hx').symm
    subst ex
    refine ⟨_, rfl, wpAny_letOwnedTupleGo_enum (s := { s with heap := h', toks := tk + 1 }) ho fun h'' he' sb => ?_⟩
    have hT2 : h''.get? s.heap.objs.size = some { cls := .type "tuple", data := .seq #[.int i tk, x'] } := (sb.2 _ (Nat.ne_of_gt hel)).trans hT
    have new : ObjOk X.prog X.w (upd H s.heap.objs.size (.tup [.int (i : Nat), x])) h'' s.heap.objs.size (.tup [.int (i : Nat), x]) :=
      ⟨by show 2 ≤ sizeLine; decide, [.int i tk, x'], .cons ⟨_, rfl⟩ (.cons ru .nil), ⟨_, hT2, rfl, _, rfl⟩⟩
    have I1 : Inv X pins σ (upd H s.heap.objs.size (.tup [.int (i : Nat), x])) { s with heap := h'', toks := tk + 1 } :=
      I.turnedNew (ch := [e, it]) (fun b ob hb q => (sb.2 b (fun z => hb (by simp [z]))).trans (hk b ob (fun z => hb (by simp [z])) (fun z => hb (by simp [z])) q)) hf (Nat.le_refl _) new
    refine ⟨.ref s.heap.objs.size, _, I1, rfl, ⟨_, x, rfl, I.hok.fresh (Nat.le_refl _), rfl, fun ys hy => by rw [I.tuple_inj hy hq]; exact hx⟩, ⟨⟨x', ?_⟩, hit'.1.at fun o q => (sb.2 it (Ne.symm hne)).trans q, hne⟩, fun b hb => ?_⟩
    · have e1 : ((i + 1 : Nat) : Int) = (i : Int) + 1 := by omega
      rw [e1]; exact he'
    · have hb' : b < s.heap.objs.size := by
        have e' : b = e ∨ b = it := by simpa using hb
        rcases e' with z | z
        · rw [z]; exact hel
        · rw [z]; exact hil
      rw [upd_ne (Nat.ne_of_lt hb')]
      exact (hf b hb).1
  done := by
    intro X hP hw hK hc i pins s σ H E I hf st hg
    subst hP hw hK
    obtain ⟨⟨old, he⟩, hit, hne⟩ := st
    obtain ⟨xs, hq, hx⟩ := hg
    obtain ⟨its, rv, p, hz⟩ := I.tuple hq
    obtain ⟨f0, f1, f2, f3, f4, f5⟩ := hf it (by simp)
    have hl := rv.length
    have pt : s.heap.IsTuple a its.toArray := p
    have hT : s.TypeIs (.ref e) "enumerate" := ⟨_, he, rfl⟩
    unfold pyNext
    refine wpAny_bind (wpAny_attempt (wpAny_callSpecial?_slot (name := Str.ofString "__next__") hT PySem.F.slot_enumerate_next
      (wpAny_call_entry PySem.F.slot_enumerate_next hT PySem.F.entry_enumerate_next ?_ (PySem.F.args_enumerate_next_1 _))))
    show wpAny _ _ (field (.ref e) 2 >>= _) _ _ _
    refine wpAny_bind (wpAny_field he rfl (x := .ref it) rfl ?_)
    refine wpAny_bind (wpAny_nextOf_tuple_end (I.ok.hd hc) hit pt (by simp; omega) fun h' x he' hx' => ?_)
    obtain ⟨o, ho, hc⟩ := hx'
    refine wpAny_bind (wpAny_isInstance (T := "StopIteration") (b := true) ⟨o, ho, hc⟩ isSubtype_stop ?_)
    exact wpAny_pure ⟨rfl, I.turned (t' := s.toks) (fun b o hb q => he' b o hb q) f0 f1 f3 f4 f5⟩
  self := fun A i s Q E st h => let ⟨⟨_, he⟩, _⟩ := st; wpAny_pyIter_enum he h
def iEnumA (K : PySem.W.Frag) (ta : TA) : TI := fun σ H R => ta σ H fun vs H1 => ∃ a xs, vs = [.ref a] ∧ ((SqL K H1 a xs ∧ R (Ite K a) H1) ∨ (SqT K H1 a xs ∧ R (IteT K a) H1))
theorem pi_enumA {X : Cx} {e : Expr} {ta : TA} {p pos tpos : Pos} {elts : List Expr} {kk : Nat} (hg : Gl X "enumerate") (hm : X.mg "enumerate" = none) (ha : PA X [e] ta) (hs : starEach [e] X.env = [(false, eval e X.env)] := by rfl) :
    PI X (.Tuple elts kk tpos) (.Call (.Name "enumerate" p) [e] [] pos) (iEnumA X.K ta) := by
  refine ⟨fun pins s σ H R I h => ?_⟩
  refine Call_ (ld_blt I hg hm boot_enumerate (PyProof.Rows.callWith_type1 (thn (ha.run pos pins s σ H _ I h) fun us s1 ⟨vs, H1, I1, r1, q1⟩ => ?_) hs rfl))
  obtain ⟨a, xs, ex, q⟩ := q1
  subst ex
  cases r1 with
  | cons r rr =>
    cases rr
    cases r
    have fresh2 : ∀ b, b ∈ [s1.heap.objs.size + 1, s1.heap.objs.size] → FpOk X pins H1 b := fun b hb => by
      have e' : b = s1.heap.objs.size + 1 ∨ b = s1.heap.objs.size := by simpa using hb
      have hle : s1.heap.objs.size ≤ b := by
        rcases e' with z | z
        · rw [z]; exact Nat.le_add_right _ _
        · rw [z]; exact Nat.le_refl _
      exact I1.fpOk hle (I1.hok.fresh hle)
    rcases q with ⟨hq, q⟩ | ⟨hq, q⟩
    · obtain ⟨its, rv, p', hz⟩ := I1.list hq
      refine call_enumerate_list p'.isList fun h' he hit hsz hk => wpAny_pyIter_enum he ?_
      have I2 : Inv X pins σ H1 { s1 with heap := h' } := I1.kept (t' := s1.toks) hk
      exact ⟨s1.heap.objs.size + 1, [s1.heap.objs.size + 1, s1.heap.objs.size], _, _, H1, rfl, I2, turn_enum a (s1.heap.objs.size + 1) s1.heap.objs.size, ⟨⟨.none, he⟩, hit, Nat.succ_ne_self _⟩, fresh2, q⟩
    · obtain ⟨its, rv, p', hz⟩ := I1.tuple hq
      refine enum_begins1 (begins_tuple a its.toArray) (show s1.heap.IsTuple a its.toArray from p') fun h' he hit hsz hk => wpAny_pyIter_enum he ?_
      have I2 : Inv X pins σ H1 { s1 with heap := h' } := I1.kept (t' := s1.toks) hk
      exact ⟨s1.heap.objs.size + 1, [s1.heap.objs.size + 1, s1.heap.objs.size], _, _, H1, rfl, I2, turn_enumT a (s1.heap.objs.size + 1) s1.heap.objs.size, ⟨⟨.none, he⟩, ⟨_, hit, rfl, rfl⟩, Nat.succ_ne_self _⟩, fresh2, q⟩
end EVE
namespace EV
open L2 PySem PySem.Spec PyProof.Rows EVC EVE
section
variable {g : Cfg} {H : Hp} {ι : List Addr}
theorem src_enT {a : Addr} {l : List D} {xs : List V} (h : SqT g.K H a xs) (r : RVs g.K H ι l xs) : SrcOk g H ι (.enT l) (IteT g.K a) := by
  intro H1 ι1 s f R i
  have h1 := f.tup _ _ h
  have r1 := r.fw f
  have hl := r1.length
  cases hi : l[i]? with
  | none =>
    refine ⟨fun _ => ⟨xs, h1, ?_⟩, fun d e => by simp [Src.at, hi] at e⟩
    have := List.getElem?_eq_none_iff.mp hi
    omega
  | some d0 =>
    refine ⟨fun e => by simp [Src.at, hi] at e, fun d e => ?_⟩
    have e2 : D.tup [.int i, d0] = d := by simpa [Src.at, hi] using e
    subst e2
    obtain ⟨v, hv, rv⟩ := r1.get hi
    refine ⟨⟨xs, v, h1, hv⟩, fun x H' y => ?_⟩
    obtain ⟨T, x0, y1, y2, y3, y4⟩ := y
    have z := y4 xs h1
    rw [hv] at z
    cases z
    exact pair_ok R (.int _) rv y1 y2 y3
end
def enumA : List D → S → R Src
  | [.tup l], s => .ok (.enT l) s
  | ds, s => enumS ds s
section
variable {X : Cx} {B : List Row} {Z : List (Str × GV)} {g : Cfg} {E : XK} {W : WX} {n : Nat} {N : List Str} {ns : Ns} {x y : Str} {p pos : Pos} {a b e tg iter tg1 iter1 elt : PySem.Expr} {ifs ifs1 es : List PySem.Expr} {ma mb : ME} {mr : MA}
theorem i_enumA (A : At X g W) {elts : List PySem.Expr} {kk : Nat} {tpos : Pos} (hg : Gl X "enumerate") (hm : X.mg "enumerate" = none) (ha : PA X [a] (ta g W mr)) (hs : starEach [a] X.env = [(false, eval a X.env)]) : PI X (.Tuple elts kk tpos) (.Call (.Name "enumerate" p) [a] [] pos) (ti g W (iArgs enumA mr)) :=
  PI.imp (pi_enumA hg hm ha hs) fun σ H Q ⟨ι, e, s, R, q, h⟩ => ⟨ι, e, s, R, q, tR.bind h fun ds s1 vs H1 ι1 he f1 R1 r1 h1 => by
    clear he
    unfold enumA at h1
    split at h1
    · rename_i l
      cases r1 with
      | cons r1 r2 =>
        cases r2
        cases r1 with
        | tup k1 k2 =>
          rw [A.K]
          exact ⟨_, _, rfl, .inr ⟨k1, h1 _ _ _ Fw.refl R1 (src_enT k1 k2)⟩⟩
    · unfold enumS at h1
      split at h1
      · rename_i r _
        cases hs : s1.seq r with
        | none => simp only [hs] at h1; exact h1.elim
        | some l =>
          simp only [hs] at h1
          cases r1 with
          | cons r1 r2 =>
            cases r2
            cases r1 with
            | lst k1 =>
              obtain ⟨xs, k2, _⟩ := R1.seq k1 hs
              rw [A.K]
              exact ⟨_, xs, rfl, .inl ⟨k2, h1 _ _ _ Fw.refl R1 (src_enL k1)⟩⟩
      · exact h1.elim⟩
end
end EV
namespace EV
open L2 PySem PySem.Spec PyProof.Rows EVC EVE
section
variable {X : Cx} {B : List Row} {Z : List (Str × GV)} {g : Cfg} {E : XK} {W : WX} {n : Nat} {N : List Str} {ns : Ns} {x y z : Str} {p pos px py pz pt pt2 spos : Pos} {a b c e tg iter tg1 iter1 elt key val : PySem.Expr} {ifs ifs1 es : List PySem.Expr} {ma mb : ME} {mr : MA} {kt k2 : Nat} {scope : Scope} {wi wi1 : MI} {m m1 : MG} {t t1 : MT} {el mk mv : ME}
theorem newL_ok0 {A : Around} {E : Value → Shared → Prop} {Q : Value → Shared → Prop} {s : Shared} {M : Model} (h : Q (.ref s.heap.objs.size) { s with heap := s.heap.push { cls := .type "list", data := .seq #[] } }) : wpAny M A (newList []) Q E s := by
  simp only [newList]
  exact wpAny_newObj_type h (by size_fits)
theorem hob_list {P : Program} {w : World} {H : Hp} {s : Shared} : ObjOk P w (upd H s.heap.objs.size (.lst [])) (s.heap.push { cls := .type "list", data := .seq #[] }) s.heap.objs.size (.lst []) :=
  ⟨by simp, [], 0, .nil, Heap.get?_push_size _ rfl⟩
/-- a part of a comprehension's slots -/
def subB (vs1 : List Nat) (own : List (Str × Nat)) : Bool := vs1.all fun j => (own.map (·.2)).contains j
theorem subB_of {vs1 : List Nat} {own : List (Str × Nat)} (h : subB vs1 own = true) : ∀ j ∈ vs1, j ∈ own.map (·.2) := fun j hj => by
  have := List.all_eq_true.mp h j hj
  simpa using this
theorem heq_list2 {scope : Scope} {pos : Pos} (it acc : Value) (env : Env) : compTurn (.ListComp elt [⟨tg, iter, ifs, 0⟩, ⟨tg1, iter1, ifs1, 0⟩] scope pos) 0 it acc env =
    oneTurn (.ListComp elt [⟨tg, iter, ifs, 0⟩, ⟨tg1, iter1, ifs1, 0⟩] scope pos) 0 tg iter ifs it acc env (innerAct (.ListComp elt [⟨tg, iter, ifs, 0⟩, ⟨tg1, iter1, ifs1, 0⟩] scope pos) iter1 acc env) := by
  rw [compTurn2_out]
  unfold oneTurn innerAct
  simp only [bind_assoc, pure_bind]
  try rfl
end
end EV
namespace EV
open L2 PySem PySem.Spec PyProof.Rows
section
variable {X : Cx} {x y : Str} {p pos px py pt pt2 apos cpos : Pos}
structure ErrC (X : Cx) (x : Str) (C : Addr) : Prop where
  ex : ∃ (Bn newId initId : String) (bmB : List Value), ExcBaseFacts Bn newId initId bmB ∧ PySem.W.excIn X.K C bmB newId = true
  g : X.mg x = some (.ref C)
  k : PySem.W.keepIn X.K (.ref C) = true
  ns : PySem.W.nsIn X.K mainGlobals x = some (some (.ref C))
theorem run_err0 {C : Addr} {pins : List (Addr × Obj)} {s : Shared} {σ : L2.St} {H : Hp} {Q : Value → Shared → Prop} (T : ErrC X x C) (I : Inv X pins σ H s)
    (h : ∀ (hn : Heap) (ad : Addr), Heap.MadeExcOf s.heap hn ad (.ref C) [] → Q (.ref ad) { s with heap := hn }) : wpAny (model X.prog X.w) X.A (call (.ref C) []) Q X.xe s := by
  obtain ⟨Bn, ni, ii, bm0, F, q⟩ := T.ex
  obtain ⟨m1, m2, m3, m4, m5, m6, m7, m8, m9, m10, m11, m12, m13, m14, m15, m16, m17, f1, f2, f3, f4⟩ := exc_obj I.kIn q
  exact wpAny_call_exc_subT F f4 f1 f2 f3 (fun hn ad hm => h hn ad hm) (by decide)
/-- raise C() -/
theorem pmk_err0 {C : Addr} (T : ErrC X x C) (r : Raises X (.ref C)) (hg : Gl X x) (hdb : (x == ("__debug__" : Str)) = false) : PMk X (.Call (.Name x p) [] [] pos) (fun _ H Q => Q (.ref C) none H) := by
  intro pins s σ H Q I h
  refine wpAny_Call_Name_kw (ld_glob I hg T.g ?_ hdb)
  exact PySem.W.callWith_K0 I.kIn T.k (run_err0 T I fun hn ad hm => mk_of I hm r h (I.hok.gone hm.new))
end
structure ErrI (K : PySem.W.Frag) (C : Addr) (Bn newId initId : String) (bmB : List Value) : Prop where
  FB : ExcBaseFacts Bn newId initId bmB
  SF : StoreFacts Bn bmB "object.__setattr__" "object"
  cls : ∃ nm q M bs bm sn sub ab col dd k0 k1 k2 k3 k5, K.lookup C = some (excClassObj nm q C M bs bm true sn sub ab col dd k0 k1 k2 k3 k5 newId) ∧ PySem.W.excTail bmB bm = true
  sa : PySem.W.findIn K (.ref C) "__setattr__" = some (some (.builtin "object.__setattr__"))
  exC : PySem.W.subIn K (.ref C) (.type "BaseException") = some true
  tyC : PySem.W.typeIn K (.ref C) = some (.type "type")
  kC : PySem.W.keepIn K (.ref C) = true
section
variable {X : Cx} {x y f : Str} {p pos px py p1 p2 p3 : Pos} {a b c e o i : PySem.Expr} {es : List PySem.Expr} {ta : TA} {tv to : TE} {Bn newId initId : String} {bmB : List Value} {C : Addr}
/-- what such an __init__ promises -/
def spI (K : PySem.W.Frag) (Bn newId initId : String) (bmB : List Value) (C : Addr) (f : Str) : Sp := fun vs H Q _ => ∃ (ad : Addr) (v : V), vs = [.ref ad, v] ∧ ErrI K C Bn newId initId bmB ∧ PySem.W.findIn K (.ref C) f = some none ∧ H ad = some (exo ad C none) ∧
  ∀ dx, H dx = none → dx ≠ ad → Q .non (upd (upd H dx (exd dx [(f, v)])) ad (exo ad C (some dx)))
/-- what a top says of such a class -/
structure ErrN (X : Cx) (x : Str) (C fI : Addr) (f : Str) (Bn newId initId : String) (bmB : List Value) : Prop where
  T : ErrI X.K C Bn newId initId bmB
  iC : PySem.W.findIn X.K (.ref C) "__init__" = some (some (.ref fI))
  tI : PySem.W.typeIn X.K (.ref fI) = some (.type "function")
  no : PySem.W.findIn X.K (.ref C) f = some none
  g : X.mg x = some (.ref C)
  ns : PySem.W.nsIn X.K mainGlobals x = some (some (.ref C))
end
abbrev Cls1 := Value × Nat × (Addr → Value → Option Addr → TS)
/-- behind a suite its name is gone -/
def goneD (j : Nat) (D : Ends) : Ends := { nx := fun σ H => D.nx (σ.set j none) H, rt := D.rt, bk := fun σ H => D.bk (σ.set j none) H, ct := fun σ H => D.ct (σ.set j none) H }
def wishA (K : PySem.W.Frag) (W0 : WX) (D : Ends) : List Cls1 → WX
  | [] => W0
  | (c, j, ts) :: r => fun cls d σ H => ∃ b, PySem.W.exmOne K cls c = some b ∧ (b = true → ∀ ad, H ad = none → ts ad cls d (goneD j D) (σ.set j (some (.ref ad))) H) ∧ (b = false → wishA K W0 D r cls d σ H)
inductive ClsA (X : Cx) : List PySem.ExceptHandler → List Cls1 → Prop
  | nil : ClsA X [] []
  | cons {x nm : Str} {c : Value} {j : Nat} {ts : Addr → Value → Option Addr → TS} {s0 : PySem.Stmt} {su : List PySem.Stmt} {p0 p1 : Pos} {hs : List PySem.ExceptHandler} {l : List Cls1} (hc : Names X x c) (hj : X.N[j]? = some nm) (hl : X.env.kindOf nm = some .local)
      (run : ∀ (ad : Addr) (ob : Obj) (cls : Value) (d : Option Addr) (pn : List (Addr × Obj)), Zc cls d ob → (∃ vs, ob.data = .fields vs) → PSs (X.suite ad ((ad, ob) :: pn)) (s0 :: su) (ts ad cls d)) (r : ClsA X hs l) :
      ClsA X (.ExceptHandler (some (.Name x p0)) (some nm) (s0 :: su) p1 :: hs) ((c, j, ts) :: l)
section
variable {X : Cx} {body : List PySem.Stmt} {h0 : PySem.ExceptHandler} {hs : List PySem.ExceptHandler} {l : List Cls1} {pos : Pos} {tb : WX → TS} {W0 : WX}
theorem ps_tryA (hst : X.stack = X.env :: X.outer) (hfr : X.env.frame = some X.env.locals) (hN : X.N.Nodup) (tk : Takes X W0)
    (hb : ∀ (W : WX) (pn : List (Addr × Obj)) (xe : Value → Shared → Prop), Takes (X.tr pn xe) W → PassesOwn (model X.prog X.w) X.A X.env xe → PSs (X.tr pn xe) body (tb W))
    (hh : ClsA X (h0 :: hs) l) : PS X (.Try body (h0 :: hs) [] [] pos) (fun D σ H => tb (wishA X.K W0 D l) D σ H) := by
  refine ⟨fun pins s σ H D I want => ?_⟩
  have okX := I.ok
  have frames : X.A.frames = some (X.env :: X.outer) := by rw [okX.frames, hst]
  let xc : Value → Shared → Prop := fun e s₁ => wpAny (model X.prog X.w) X.A (noteFrame e X.env) (fun _ s₂ => wpAny (model X.prog X.w) X.A (setFlight e none) (fun _ s₃ => wpAny (model X.prog X.w) X.A (handleBy e X.env (h0 :: hs)) (SP X pins D) X.xe s₃) X.xe s₂) X.xe s₁
  have caught : Takes (X.tr (X.pn ++ pins) xc) (wishA X.K W0 D l) := by
    intro ev s' air
    obtain ⟨ad, G, s0, pins0, σ0, H0, cls, dd, rfl, J0, kept, slots, sky, ha, hos, hgen, wish⟩ := air
    have J : Inv X pins σ0 H0 s0 := J0.ofTry okX
    have sky1 : Sky G (X.env :: X.outer) ad (Zc cls dd) X.env.locals s'.heap := by
      rw [← hst]
      exact sky
    show wpAny (model X.prog X.w) X.A (noteFrame (.ref ad) X.env) _ _ _
    refine Sky.land Zc.steady frames hfr sky1 fun hA flA slA => ?_
    have JA : Inv X pins σ0 H0 { s' with heap := hA } := J.landed kept flA.1 (slots.trans slA) hos hgen
    obtain ⟨obA, fsA, atA, zA, dA⟩ := flA.there
    have off : ad ∉ frs (X.env :: X.outer) := fun hm => by
      obtain ⟨_, o2, e2, hnf⟩ := flA.2.2.1.mem hm
      rw [atA] at e2
      cases e2
      exact hnf _ dA
    have offL : ad ≠ X.env.locals := fun z => off (List.mem_filterMap.mpr ⟨X.env, List.mem_cons_self, by rw [hfr, z]⟩)
    have offF : ad ∉ X.fs := fun hm => by
      obtain ⟨e, he, q⟩ := List.mem_filterMap.mp hm
      exact off (List.mem_filterMap.mpr ⟨e, List.mem_cons_of_mem _ he, q⟩)
    have SA := JA.suite atA dA ha offL offF
    have go : ∀ {hs' : List PySem.ExceptHandler} {l' : List Cls1}, ClsA X hs' l' → wishA X.K W0 D l' cls dd σ0 H0 → wpAny (model X.prog X.w) X.A (handleBy (.ref ad) X.env hs') (SP X pins D) X.xe { s' with heap := hA } := by
      intro hs' l' hk
      induction hk with
      | nil =>
        intro wish0
        refine wpAny_handleBy_nil ?_
        obtain ⟨b1, b2, b3, ob, fv, tB, oB, tsB, atB, zB, dB, nB, rB⟩ := id flA
        have up : wpAny (model X.prog X.w) X.A (setFlight (.ref ad) X.env.frame) (fun _ s4 => wpAny (model X.prog X.w) X.A (throw (.ref ad) : Sem Flow) (SP X pins D) X.xe s4) X.xe { s' with heap := hA } := by
          rw [hfr]
          refine HandSPX.setFlight_upZ flA fun hB held slB => wpAny_throw (tk _ _ ?_)
          refine ⟨ad, G, s0, pins, σ0, H0, cls, dd, rfl, J, kept, (slots.trans slA).trans slB, .inr (.inr ?_), ha, hos, hgen, wish0⟩
          rw [hst]
          exact held
        unfold PySem.passOn
        refine wpAny_bind (wpAny_field atB dB nB ?_)
        have notNone : ¬ ((Value.ref tB == Value.none) = true) := by simp
        rw [if_neg notNone]
        first
          | exact wpAny_bind (wpAny_pure (wpAny_bind up))
          | exact wpAny_bind up
      | @cons x nm c j ts st0 su p0 p1 hs2 l2 hc hj hl run r ih =>
        rintro ⟨b, isb, yes, no⟩
        refine wpAny_handleBy_cons (codeAny_handlers_test ?_) (by intro q; cases q)
        have ofT : PySem.W.Looks (model X.prog X.w) hA (typeOf (.ref ad)) cls := fun A Q E s k q => wpAny_typeOf_ref (k _ _ atA) (by
          rw [zA.1]
          exact q)
        have matched := PySem.W.exm_one (M := model X.prog X.w) (JA.kIn) ofT isb
        have named : ∀ {Q : Value → Shared → Prop} {E : Value → Shared → Prop}, Q c { s' with heap := hA } → wpAny (model X.prog X.w) (X.A.mark (some (.ref ad))) (eval (.Name x p0) X.env) Q E { s' with heap := hA } := by
          intro Q E q
          rcases hc with ⟨n1, n2, n3 | ⟨n3, n4, n5⟩⟩
          · exact ld_glob (X := X.suite ad ((ad, obA) :: (X.pn ++ pins))) SA n1 n3 q n2
          · exact ld_blt (X := X.suite ad ((ad, obA) :: (X.pn ++ pins))) SA n1 n3 n4 q n5 n2
        refine named (matched.here ?_)
        cases b with
        | false =>
          show wpAny _ X.A (handleBy (.ref ad) X.env hs2) _ _ _
          exact ih (no rfl)
        | true =>
          refine codeAny_handlers_suite_as (HandSPX.lands_againZ flA fun hB flB slB => ?_)
          have JB : Inv X pins σ0 H0 { s' with heap := hB } := J.landed kept flB.1 ((slots.trans slA).trans slB) hos hgen
          obtain ⟨obB, fsB, atB, zB, dB⟩ := flB.there
          have SB := JB.suite atB dB ha offL offF
          refine store_ok (X := X.suite ad ((ad, obB) :: (X.pn ++ pins))) (v := .ref ad) SB hN hj (.inl hl) rfl (fun s5 S5 => ?_) (.inr hl)
          refine wpAny_mono ((run ad obB cls dd (X.pn ++ pins) zB ⟨_, dB⟩).run [] s5 _ H0 _ S5 (yes rfl ad ha)) (fun fl s6 out => ?_) (fun _ _ z => False.elim z)
          have last : ∀ {σ6 : L2.St} {H6 : Hp} {Q : Shared → Prop}, Inv (X.suite ad ((ad, obB) :: (X.pn ++ pins))) [] σ6 H6 s6 → (∀ s7, Inv X pins (σ6.set j none) H6 s7 → Q s7) →
              wpAny (model X.prog X.w) X.A (do bindName X.env nm .none; unbindBehindTheSuite X.env nm p1) (fun _ s7 => Q s7) X.xe s6 := fun S6 hq => gone_ok (S6.unsuite okX) hN hj hl hq
          cases fl with
          | next =>
            obtain ⟨σ6, H6, S6, q6⟩ := out
            exact last S6 fun s7 J7 => ⟨_, _, J7, q6⟩
          | brk =>
            obtain ⟨σ6, H6, S6, q6⟩ := out
            exact last S6 fun s7 J7 => ⟨_, _, J7, q6⟩
          | cont =>
            obtain ⟨σ6, H6, S6, q6⟩ := out
            exact last S6 fun s7 J7 => ⟨_, _, J7, q6⟩
          | ret u =>
            obtain ⟨v6, σ6, H6, S6, r6, q6⟩ := out
            exact last S6 fun s7 J7 => ⟨_, _, _, J7, r6, q6⟩
    exact go hh wish
  refine wpAny_Try_except (wpAny_mono ((hb (wishA X.K W0 D l) (X.pn ++ pins) xc caught PassesOwn.looking).run [] s σ H D (I.toTry _) want) (fun fl s1 out => ?_) fun e s1 z => z)
  cases fl with
  | next =>
    obtain ⟨σ1, H1, J1, q⟩ := out
    exact wpAny_execs_nil ⟨σ1, H1, J1.ofTry okX, q⟩
  | brk =>
    obtain ⟨σ1, H1, J1, q⟩ := out
    exact ⟨σ1, H1, J1.ofTry okX, q⟩
  | cont =>
    obtain ⟨σ1, H1, J1, q⟩ := out
    exact ⟨σ1, H1, J1.ofTry okX, q⟩
  | ret u =>
    obtain ⟨v, σ1, H1, J1, r, q⟩ := out
    exact ⟨v, σ1, H1, J1.ofTry okX, r, q⟩
end
/-- an own error with a field, and its __init__ at every level -/
structure ErrF (X : Cx) (x f : Str) (C : Addr) : Prop where
  ex : ∃ (fI : Addr) (Bn newId initId : String) (bmB : List Value) (fd : FuncData), ErrN X x C fI f Bn newId initId bmB ∧ (∀ k, FnOk X.prog X.w X.K X.mg X.base (L2.CX X.prog X.w) (k + 1) fI fd ["self", f] (spI X.K Bn newId initId bmB C f)) ∧ Binds X.K fd ["self", f] []
  xf : XfC X.K C
  no : PySem.W.findIn X.K (.ref C) f = some none
  g : X.mg x = some (.ref C)
end EV
namespace EV
open L2 PySem PySem.Spec PyProof.Rows
section
variable {X : Cx} {B : List EV.Row} {Z : List (Str × GV)} {g : Cfg} {W : WX} {n : Nat} {N : List Str} {ns : Ns} {x f : Str} {p pos kpos : Pos} {a : PySem.Expr} {ma : ME}
def sRaise0 (x : Str) : MS := fun _ e s => .ok (.xc ⟨x, "", none⟩ e) s
/-- what a def knows of an own error without a field -/
structure Err0 (X : Cx) (x : Str) : Prop where
  ex : ∃ C, ErrC X x C ∧ Raises X (.ref C)
theorem s_raise0 (C : Ct X B Z g W n N ns) (T : Err0 X x) (h : glB' ns x = true) : PS X (.Raise (some (.Call (.Name x p) [] [] pos)) none kpos) (ts g W (sRaise0 x)) := by
  obtain ⟨k1, k2, k3⟩ := glB_of h
  obtain ⟨c, T, r⟩ := T.ex
  refine PS.imp (ps_raise C.at_.calm C.at_.tk (pmk_err0 T r (C.glob k1) k2)) fun D σ H ⟨ι, e, s, R, q, h⟩ => ?_
  exact h σ (.ref c) none H ι Fw.refl R q ⟨⟨c, rfl, by rw [← C.at_.K]; exact T.ns⟩, rfl⟩
end
/-- what a handler's suite lays: a text, the error's field, isinstance of a built-in class -/
inductive HIt where
  | s (x : Str) | fld (f : Str) | isi (T : String)
abbrev IsT := List ((Str × String) × Bool)
def isLk (bs : IsT) (c : Str) (T : String) : Option Bool := match bs.find? fun q => q.1.1 == c && q.1.2 == T with
  | some q => some q.2
  | none => none
def hIts (bs : IsT) (x : Ex) : List HIt → Option (List D)
  | [] => some []
  | .s t :: r => (hIts bs x r).map (D.str t :: ·)
  | .fld f :: r => if x.f == f then (match x.a with
    | some i => (hIts bs x r).map (D.int i :: ·)
    | none => none) else none
  | .isi t :: r => match isLk bs x.c t with
    | some b => (hIts bs x r).map (D.bl b :: ·)
    | none => none
structure Hd where
  c : Str
  run : Ex → En → S → R Fl
def hL (bs : IsT) (i j : Nat) (l : List HIt) (x : Ex) (e : En) (s : S) : R Fl := match hIts bs x l with
  | some ds => if ds.length ≤ 1000 ∧ j < e.length then .ok (.nx ((e.set i (some (.lst s.n))).set j none)) (s.new (.lst ds)) else .no
  | none => .no
def onX (tbl : List Str) (hs : List Hd) (x : Ex) (e : En) (s : S) : R Fl := if tbl.contains x.c = true then (match hs.find? (fun h => x.c == h.c) with
  | some h => h.run x e s
  | none => .ok (.xc x e) s) else .no
def sTry (tbl : List Str) (b : MS) (hs : List Hd) : MS := fun F e s => match b F e s with
  | .ok (.xc x e1) s1 => onX tbl hs x e1 s1
  | r => r
section
variable {X : Cx} {B : List EV.Row} {Z : List (Str × GV)} {g : Cfg} {W W0 : WX} {n : Nat} {N : List Str} {ns : Ns} {x f : Str} {p pos kpos : Pos} {a : PySem.Expr} {ma : ME}
/-- isinstance(e, c), e the exception that the suite holds -/
def rIsC (K : PySem.W.Frag) (ad : Addr) (cls : Value) (d : Option Addr) (C0 : Addr) : List V → Hp → VK → Prop := fun xs H Q => ∃ (c : V) (cv : Value) (b : Bool), xs = [.ref ad, c] ∧ cls = .ref C0 ∧ (∀ dd, d = some dd → ∃ fs, H dd = some (.xd fs)) ∧ (∀ u, RelV c u → u = cv) ∧ PySem.W.kitOne K (.ref C0) cv = some b ∧ Q (.bl b) H
theorem call_isC {ad C0 : Addr} {oe : Obj} {cls : Value} {d : Option Addr} {pn : List (Addr × Obj)} (C : ExcC X.K C0) (hz : Zc cls d oe) (hf : ∃ vs, oe.data = .fields vs) : CallR (X.suite ad ((ad, oe) :: pn)) (.builtin "isinstance") (rIsC X.K ad cls d C0) := by
  intro pins s σ H xs us Q I r h
  obtain ⟨c, cv, b, rfl, ec0, hd, hcv, e, q⟩ := h
  subst ec0
  cases r with
  | cons rx rr =>
    cases rr with
    | cons rt rr =>
      cases rr
      cases rx
      have ec := hcv _ rt
      subst ec
      have hcl : (PySem.W.clsIn X.K C0).isSome = true := by
        cases hc : PySem.W.clsIn X.K C0 with
        | some cd => rfl
        | none =>
          have z := C.hd
          unfold PySem.W.hasDictIn at z
          rw [hc] at z
          cases z
      obtain ⟨hget, _⟩ := I.pin (ad, oe) (List.mem_append.mpr (.inl List.mem_cons_self))
      obtain ⟨vs, hv⟩ := hf
      have fin : ∀ {od : Option Obj}, PySem.W.InstAt s.heap ad oe C0 od → wpAny (model X.prog X.w) (X.suite ad ((ad, oe) :: pn)).A (call (.builtin "isinstance") [.ref ad, _]) (EP (X.suite ad ((ad, oe) :: pn)) pins σ Q) (X.suite ad ((ad, oe) :: pn)).xe s := fun J =>
        PySem.W.kia_one (PySem.W.kitx_exc hcl C.hg C.hk C.hs C.ha C.hn C.ht C.hm) I.kIn J e (fun z => nomatch z) fun tk => ⟨.bl b, H, I.kept (t' := tk) fun _ _ z => z, rfl, q⟩
      obtain ⟨oc, od, oda, osl⟩ := oe
      obtain ⟨h1, h2⟩ := hz
      dsimp only at h1 h2 hv
      subst h1 h2 hv
      cases od with
      | none => exact fin (od := none) ⟨hget, rfl, rfl, trivial⟩
      | some dd =>
        obtain ⟨fs, hfs⟩ := hd dd rfl
        have hx : ObjOk X.prog X.w H s.heap dd (.xd fs) := I.hok dd _ hfs
        obtain ⟨mA, hns, hr⟩ := hx
        obtain ⟨oD, ho, hl⟩ := lookIn_ns hns
        exact fin (od := some oD) ⟨hget, rfl, rfl, ho⟩
def tIt (K : PySem.W.Frag) (ad : Addr) (cls : Value) (d : Option Addr) (C0 : Addr) (j : Nat) : HIt → TE
  | .s t => tC (V.str t)
  | .fld f => tXf ad cls d C0 f (tVar j)
  | .isi T => tCB (rIsC K ad cls d C0) (tCons (tVar j) (tCons (tC (V.ty T)) tNil))
def tIts (K : PySem.W.Frag) (ad : Addr) (cls : Value) (d : Option Addr) (C0 : Addr) (j : Nat) : List HIt → TA
  | [] => tNil
  | h :: r => tCons (tIt K ad cls d C0 j h) (tIts K ad cls d C0 j r)
theorem tIts_ok {K : PySem.W.Frag} {H : Hp} {ι : List Addr} {bs : IsT} {x : Ex} {ad C0 : Addr} {d : Option Addr} {j : Nat} {σ : L2.St} (hj : σ[j]? = some (some (.ref ad))) (hx : RXo K H ι x (.ref C0) d)
    (hb : ∀ c T b, isLk bs c T = some b → ∀ C, PySem.W.nsIn K mainGlobals c = some (some (.ref C)) → PySem.W.kitOne K (.ref C) (.type T) = some b) :
    ∀ {l : List HIt} {ds : List D}, hIts bs x l = some ds → ∀ {Q : List V → Hp → Prop}, (∀ vs, (∀ (H' : Hp) (ι' : List Addr), RVs K H' ι' ds vs) → Q vs H) → tIts K ad (.ref C0) d C0 j l σ H Q
  | [], ds, e, Q, h => by cases e; exact h [] fun _ _ => .nil
  | .s t :: r, ds, e, Q, h => by
    obtain ⟨ds', e', rfl⟩ := Option.map_eq_some_iff.mp e
    exact tIts_ok hj hx hb e' fun vs hv => h _ fun H' ι' => .cons (.str _) (hv H' ι')
  | .fld f :: r, ds, e, Q, h => by
    unfold hIts at e
    split at e
    · rename_i hf
      split at e
      · rename_i i hi
        obtain ⟨ds', e', rfl⟩ := Option.map_eq_some_iff.mp e
        obtain ⟨_, hx2⟩ := hx
        rw [hi] at hx2
        obtain ⟨dd, hd, hH, _⟩ := hx2
        refine ⟨.ref ad, hj, rfl, rfl, dd, _, .int i, hd, hH, ?_, tIts_ok hj ⟨by assumption, by rw [hi]; exact ⟨dd, hd, hH, by assumption⟩⟩ hb e' fun vs hv => h _ fun H' ι' => .cons (.int _) (hv H' ι')⟩
        rw [← beq_iff_eq.mp hf]
        simp [List.lookup]
      · cases e
    · cases e
  | .isi T :: r, ds, e, Q, h => by
    unfold hIts at e
    split at e
    · rename_i b hl
      obtain ⟨ds', e', rfl⟩ := Option.map_eq_some_iff.mp e
      obtain ⟨⟨C, hc, hn⟩, hx2⟩ := id hx
      cases hc
      refine ⟨.ref ad, hj, V.ty T, .type T, b, rfl, rfl, fun dd hd => ?_, fun u ru => ru, hb _ _ _ hl _ hn, tIts_ok hj hx hb e' fun vs hv => h _ fun H' ι' => .cons (.bl _) (hv H' ι')⟩
      subst hd
      cases hi : x.a with
      | none => rw [hi] at hx2; cases hx2
      | some i =>
        rw [hi] at hx2
        obtain ⟨d2, e2, hH, _⟩ := hx2
        cases e2
        exact ⟨_, hH⟩
    · cases e
theorem RE.hnd {K : PySem.W.Frag} {H : Hp} {ι : List Addr} {e : En} {σ : L2.St} {d : D} {v : V} (h : RE K H ι e σ) (r : RV K H ι d v) (i j : Nat) (w : Option V) : RE K H ι ((e.set i (some d)).set j none) (((σ.set j w).set i (some v)).set j none) := by
  refine ⟨by simp [h.1], fun k d' q => ?_⟩
  by_cases hk : j = k
  · subst hk
    rw [List.getElem?_set] at q
    simp at q
  · rw [List.getElem?_set_ne hk] at q
    rw [List.getElem?_set_ne hk]
    by_cases hi : i = k
    · subst hi
      rw [List.getElem?_set] at q
      rw [if_pos rfl] at q
      split at q
      · cases q
        rename_i hl
        exact ⟨v, by rw [List.getElem?_set, if_pos rfl, if_pos (by rw [List.length_set, ← h.1]; exact hl)], r⟩
      · cases q
    · rw [List.getElem?_set_ne hi] at q
      rw [List.getElem?_set_ne hi, List.getElem?_set_ne hk]
      exact h.2 k d' q
/-- what a def knows of all own errors -/
structure PxM (X : Cx) (tbl : List Str) (bs : IsT) : Prop where
  m : ∀ x ∈ tbl, ∀ y ∈ tbl, ∀ C D, PySem.W.nsIn X.K mainGlobals x = some (some (.ref C)) → PySem.W.nsIn X.K mainGlobals y = some (some (.ref D)) → PySem.W.exmOne X.K (.ref C) (.ref D) = some (x == y)
  i : ∀ x T b, isLk bs x T = some b → ∀ C, PySem.W.nsIn X.K mainGlobals x = some (some (.ref C)) → PySem.W.kitOne X.K (.ref C) (.type T) = some b
  e : ∀ x ∈ tbl, ∀ C, PySem.W.nsIn X.K mainGlobals x = some (some (.ref C)) → ExcC X.K C
  g : ∀ x ∈ tbl, ∃ C, X.mg x = some (.ref C) ∧ PySem.W.nsIn X.K mainGlobals x = some (some (.ref C))
/-- within the body of a try -/
theorem Ct.tr (C : Ct X B Z g W0 n N ns) {pn : List (Addr × Obj)} {xe : Value → Shared → Prop} (tk : Takes (X.tr pn xe) W) (po : PassesOwn (model X.prog X.w) X.A X.env xe) : Ct (X.tr pn xe) B Z g W n N ns where
  at_ := ⟨C.at_.K, C.at_.w, C.at_.calm, C.at_.un, tk, po⟩
  eN := C.eN
  nd := C.nd
  room := C.room
  l := C.l
  c := C.c
  f := C.f
  gl := C.gl
  fnc := C.fnc
  kind := C.kind
  nm := fun x v h => by
    have z := C.nm x v h
    cases v with
    | fn i => exact z
    | bi => exact z
    | mf id => exact z
    | cst d => exact z
    | exc => exact z
theorem Dp.tr {b : Option Bool} (D : Dp X g n b) {pn : List (Addr × Obj)} {xe : Value → Shared → Prop} : Dp (X.tr pn xe) g n b := ⟨D.room, D.tab, D.lam⟩
/-- a handler: its clause, its suite -/
structure HOk (X : Cx) (N : List Str) (ns : Ns) (g : Cfg) (tbl : List Str) (h : PySem.ExceptHandler) (hd : Hd) (c : Cls1) (C0 : Addr) : Prop where
  cls : ∀ {hs : List PySem.ExceptHandler} {l : List Cls1}, ClsA X hs l → ClsA X (h :: hs) (c :: l)
  c1 : c.1 = .ref C0
  ns : PySem.W.nsIn X.K mainGlobals hd.c = some (some (.ref C0))
  mem : hd.c ∈ tbl
  run : ∀ {x : Ex} {e : En} {s : S} {σ : L2.St} {H : Hp} {ι : List Addr} {d : Option Addr} {W : WX} {D : Ends}, RS g.K g.T H ι s → RE g.K H ι e σ → RXo g.K H ι x (.ref C0) d → tRs g W (hd.run x e s) H ι D → ∀ ad, H ad = none → c.2.2 ad (.ref C0) d (goneD c.2.1 D) (σ.set c.2.1 (some (.ref ad))) H
inductive HsOk (X : Cx) (N : List Str) (ns : Ns) (g : Cfg) (tbl : List Str) : List PySem.ExceptHandler → List Hd → List Cls1 → Prop
  | nil : HsOk X N ns g tbl [] [] []
  | cons {h : PySem.ExceptHandler} {hd : Hd} {c : Cls1} {C0 : Addr} {hs : List PySem.ExceptHandler} {hds : List Hd} {l : List Cls1} : HOk X N ns g tbl h hd c C0 → HsOk X N ns g tbl hs hds l → HsOk X N ns g tbl (h :: hs) (hd :: hds) (c :: l)
theorem HsOk.cls {tbl : List Str} {hs : List PySem.ExceptHandler} {hds : List Hd} {l : List Cls1} (h : HsOk X N ns g tbl hs hds l) : ClsA X hs l := by
  induction h with
  | nil => exact .nil
  | cons h _ ih => exact h.cls ih
theorem wish_of {tbl : List Str} {bs : IsT} (hK : X.K = g.K) (P : PxM X tbl bs) {D : Ends} {x : Ex} {e : En} {s : S} {σ : L2.St} {H : Hp} {ι : List Addr} {d : Option Addr} {C : Addr} (R : RS g.K g.T H ι s) (q : RE g.K H ι e σ) (rx : RXo g.K H ι x (.ref C) d) (hm : x.c ∈ tbl) :
    ∀ {hs : List PySem.ExceptHandler} {hds : List Hd} {l : List Cls1}, HsOk X N ns g tbl hs hds l → tRs g W (match hds.find? (fun h => x.c == h.c) with
      | some h => h.run x e s
      | none => .ok (.xc x e) s) H ι D → wishA X.K W D l (.ref C) d σ H := by
  intro hs hds l hk
  obtain ⟨⟨C', hc, hn⟩, _⟩ := id rx
  cases hc
  induction hk with
  | nil => exact fun h => h σ _ d H ι Fw.refl R q rx
  | @cons h hd c C0 hs hds l hok _ ih =>
    intro hh
    obtain ⟨c1, j, ts1⟩ := c
    have e1 := hok.c1
    simp only at e1
    subst e1
    refine ⟨x.c == hd.c, P.m _ hm _ hok.mem _ _ (by rw [hK]; exact hn) hok.ns, fun hb ad had => ?_, fun hb => ih ?_⟩
    · rw [List.find?_cons, hb] at hh
      have en : C = C0 := by
        have h1 := hok.ns
        rw [← beq_iff_eq.mp hb, hK, hn] at h1
        cases h1
        rfl
      subst en
      exact hok.run R q rx hh ad had
    · rw [List.find?_cons, hb] at hh
      exact hh
theorem s_try (C : Ct X B Z g W n N ns) {PX : Cx → Prop} {tbl : List Str} {bs : IsT} {b : Option Bool} (P : PX X) (hP : PxM X tbl bs) (tr : ∀ {pn : List (Addr × Obj)} {xe : Value → Shared → Prop}, PX (X.tr pn xe)) (tp : X.stack = X.env :: X.outer ∧ X.env.frame = some X.env.locals) (Dd : Dp X g n b)
    {body : List PySem.Stmt} {mb : MS} {h0 : PySem.ExceptHandler} {hs : List PySem.ExceptHandler} {hds : List Hd} {l : List Cls1}
    (hb : ∀ {Y : Cx} {W : WX}, Ct Y B Z g W n N ns → PX Y → Dp Y g n b → PSs Y body (ts g W mb)) (hh : HsOk X N ns g tbl (h0 :: hs) hds l) : PS X (.Try body (h0 :: hs) [] [] pos) (ts g W (sTry tbl mb hds)) := by
  refine PS.imp (ps_tryA (W0 := W) tp.1 tp.2 (by rw [C.eN]; exact C.nd) C.at_.tk (fun W' pn xe tk po => hb (C.tr tk po) tr Dd.tr) hh.cls) fun D σ H ⟨ι, e, s, R, q, h⟩ => ⟨ι, e, s, R, q, ?_⟩
  unfold sTry at h
  revert h
  cases hm : mb g.F e s with
  | no => exact fun h => h
  | ex x s1 => exact fun h => h
  | ok fl s1 =>
    cases fl with
    | xc x e1 =>
      intro h σ' c od H' ι' f' R' q' rx
      have h' : tRs g W (onX tbl hds x e1 s1) H' ι' D := tRs.fw f' h
      unfold onX at h'
      obtain ⟨hc, h'⟩ := tRs.ite h'
      obtain ⟨⟨C1, ec, _⟩, _⟩ := id rx
      subst ec
      exact wish_of C.at_.K hP R' q' rx (by simpa using hc) hh h'
    | nx e => exact fun h => h
    | rt d => exact fun h => h
    | bk e => exact fun h => h
    | ct e => exact fun h => h
def biZ (Z : List (Str × GV)) (x : Str) : Bool := match Z.lookup x with
  | some .bi => true
  | _ => false
theorem biZ_of {x : Str} (h : biZ Z x = true) : Z.lookup x = some .bi := by
  unfold biZ at h
  split at h
  · assumption
  · cases h
def itOk (Z : List (Str × GV)) (ns : Ns) (nm : Str) : PySem.Expr → HIt → Bool
  | .Constant (.str x) _ _, .s y => x == y
  | .Attribute (.Name x _) f _, .fld f' => x == nm && f == f'
  | .Call (.Name i _) [.Name x _, .Name t _] [] _, .isi T => i == ("isinstance" : Str) && x == nm && t == (T : Str) && glB' ns t && decide (bootBuiltins t = some (.type T)) && biZ Z t
  | _, _ => false
def itsOk (Z : List (Str × GV)) (ns : Ns) (nm : Str) : List PySem.Expr → List HIt → Bool
  | [], [] => true
  | e :: es, h :: hs => itOk Z ns nm e h && itsOk Z ns nm es hs
  | _, _ => false
theorem it_ok (C : Ct X B Z g W n N ns) {c nm : Str} {j : Nat} {C0 : Addr} {e : PySem.Expr} {it : HIt} (h1 : glB' ns "isinstance" = true) (z1 : biZ Z "isinstance" = true) (hv : varB N ns j nm = true) (hE : ExcC X.K C0) (hok : itOk Z ns nm e it = true) (hfl : ∀ f, it = .fld f → XfC X.K C0 ∧ PySem.W.findIn X.K (.ref C0) f = some none)
    {ad : Addr} {ob : Obj} {cls : Value} {d : Option Addr} {pn : List (Addr × Obj)} (hz : Zc cls d ob) (hf : ∃ vs, ob.data = .fields vs) : PE (X.suite ad ((ad, ob) :: pn)) e (tIt X.K ad cls d C0 j it) := by
  have vj : ∀ {pos : Pos}, PE (X.suite ad ((ad, ob) :: pn)) (.Name nm pos) (tVar j) := by
    unfold varB at hv
    simp only [Bool.and_eq_true, Bool.not_eq_true'] at hv
    obtain ⟨⟨⟨q1, q2⟩, q3⟩, q4⟩ := hv
    exact pe_var (X := X.suite ad ((ad, ob) :: pn)) (C.nth q1) (C.vis q2) q3 q4
  unfold itOk at hok
  split at hok
  · rw [beq_iff_eq.mp hok]
    exact pe_str
  · rename_i x _ f _ f'
    rw [Bool.and_eq_true] at hok
    obtain ⟨a1, a2⟩ := hok
    have e1 := beq_iff_eq.mp a1
    have e2 := beq_iff_eq.mp a2
    subst e1 e2
    obtain ⟨t1, t2⟩ := hfl _ rfl
    exact pe_xf t1 t2 hz hf vj
  · rename_i i _ x _ t _ _ T
    simp only [Bool.and_eq_true, decide_eq_true_eq] at hok
    obtain ⟨⟨⟨⟨⟨a1, a2⟩, a3⟩, a4⟩, a5⟩, a6⟩ := hok
    have e1 := beq_iff_eq.mp a1
    have e2 := beq_iff_eq.mp a2
    subst e1 e2
    obtain ⟨k1, k2, k3⟩ := glB_of h1
    obtain ⟨q1, q2, q3⟩ := glB_of a4
    have m1 : X.mg "isinstance" = none := C.nm _ _ (biZ_of z1)
    have m2 : X.mg t = none := C.nm _ _ (biZ_of a6)
    have pt : ∀ {pos : Pos}, PE (X.suite ad ((ad, ob) :: pn)) (.Name t pos) (tC (V.ty T)) := pe_bltn (X := X.suite ad ((ad, ob) :: pn)) (v := .ty T) (C.glob q1) m2 a5 rfl q3 q2
    exact pe_callB (X := X.suite ad ((ad, ob) :: pn)) (call_isC hE hz hf) (C.glob k1) m1 boot_isinstance (pa_cons vj (pa_cons pt pa_nil)) k3 k2 rfl rfl
  · cases hok
theorem its_ok (C : Ct X B Z g W n N ns) {c nm : Str} {j : Nat} {C0 : Addr} (h1 : glB' ns "isinstance" = true) (z1 : biZ Z "isinstance" = true) (hv : varB N ns j nm = true) (hE : ExcC X.K C0) {ad : Addr} {ob : Obj} {cls : Value} {d : Option Addr} {pn : List (Addr × Obj)} (hz : Zc cls d ob) (hf : ∃ vs, ob.data = .fields vs) :
    ∀ {es : List PySem.Expr} {its : List HIt}, itsOk Z ns nm es its = true → (∀ f, HIt.fld f ∈ its → XfC X.K C0 ∧ PySem.W.findIn X.K (.ref C0) f = some none) → PA (X.suite ad ((ad, ob) :: pn)) es (tIts X.K ad cls d C0 j its)
  | [], [], _, _ => pa_nil
  | e :: es, h :: hs, hok, hfl => by
    unfold itsOk at hok
    rw [Bool.and_eq_true] at hok
    have p1 := it_ok (c := c) C h1 z1 hv hE hok.1 (fun f ef => hfl f (by rw [ef]; exact List.mem_cons_self)) (ad := ad) (pn := pn) hz hf
    have p2 := its_ok (c := c) C h1 z1 hv hE (ad := ad) (pn := pn) hz hf hok.2 fun f hm => hfl f (List.mem_cons_of_mem _ hm)
    refine pa_cons p1 p2 ?_
    have hs' := hok.1
    unfold itOk at hs'
    split at hs' <;> first | rfl | cases hs'
  | [], _ :: _, hok, _ => by cases hok
  | _ :: _, [], hok, _ => by cases hok
theorem h_list (C : Ct X B Z g W n N ns) {tbl : List Str} {bs : IsT} (P : PxM X tbl bs) {c nm y : Str} {p0 p1 py lp sp : Pos} {es : List PySem.Expr} (i j : Nat) (its : List HIt) (hc : tbl.contains c = true) (hcg : glB' ns c = true) (hv : varB N ns j nm = true) (hjl : lclB ns nm = true) (hi : nthB N i y = true) (hil : lclB ns y = true)
    (h1 : glB' ns "isinstance" = true) (z1 : biZ Z "isinstance" = true) (hits : itsOk Z ns nm es its = true) (hfl : ∀ f, HIt.fld f ∈ its → ∃ C, ErrF X c f C) :
    ∃ cl C0, HOk X N ns g tbl (.ExceptHandler (some (.Name c p0)) (some nm) [.Assign [.Name y py] (.List es lp) sp] p1) ⟨c, hL bs i j its⟩ cl C0 := by
  have hm : c ∈ tbl := by simpa using hc
  obtain ⟨C0, g1, g2⟩ := P.g c hm
  obtain ⟨k1, k2, k3⟩ := glB_of hcg
  have hE := P.e c hm C0 g2
  have hN : X.N.Nodup := by rw [C.eN]; exact C.nd
  have hf2 : ∀ f, HIt.fld f ∈ its → XfC X.K C0 ∧ PySem.W.findIn X.K (.ref C0) f = some none := fun f hm => by
    obtain ⟨C1, T⟩ := hfl f hm
    have := T.g
    rw [g1] at this
    cases this
    exact ⟨T.xf, T.no⟩
  have hvj : X.N[j]? = some nm := by
    unfold varB at hv
    simp only [Bool.and_eq_true] at hv
    exact C.nth hv.1.1.1
  refine ⟨(.ref C0, j, fun ad cls d => tAsg (tLst (tIts X.K ad cls d C0 j its)) (gName i)), C0, ⟨fun r => ?_, rfl, g2, hm, ?_⟩⟩
  · refine .cons ⟨C.glob k1, k2, .inl g1⟩ hvj (C.lcl hjl) (fun ad ob cls d pn hz hf => pss_one ?_) r
    exact ps_set (X := X.suite ad ((ad, ob) :: pn)) hN (C.nth hi) (.inl (C.lcl hil)) (pe_lst (its_ok (c := c) C h1 z1 hv hE hz hf hits hf2)) rfl (.inr (C.lcl hil))
  · intro x e s σ H ι d W' D R q rx h ad had
    unfold hL at h
    have hK := C.at_.K
    cases hds : hIts bs x its with
    | none => simp only [hds] at h; exact h.elim
    | some ds =>
      simp only [hds] at h
      obtain ⟨⟨hlen, hje⟩, h⟩ := tRs.ite h
      show tAsg (tLst (tIts X.K ad (.ref C0) d C0 j its)) (gName i) (goneD j D) (σ.set j (some (.ref ad))) H
      have hjl2 : j < σ.length := by rw [← q.1]; exact hje
      refine tIts_ok (by rw [List.getElem?_set, if_pos rfl, if_pos hjl2]) (by rw [hK]; exact rx) P.i hds fun vs hvs => ?_
      refine ⟨by rw [← (hvs H ι).length]; exact Nat.le_trans hlen (by decide), fun pa hp => ?_⟩
      have hvs' := hvs (upd H pa (.lst vs)) (ι ++ [pa])
      rw [hK] at hvs'
      exact h _ _ (ι ++ [pa]) (Fw.newA hp) (R.alloc hp ⟨vs, upd_same, hvs'⟩) (RE.hnd (q.fw (Fw.newA hp)) (.lst (by rw [← R.len]; simp)) i j _)
end
end EV
namespace EV
open L2 PySem PySem.Spec PyProof.Rows
/-- a def stands in the written part -/
def FunAt (K : PySem.W.Frag) (x : Str) (st : PySem.Stmt) : Prop := ∃ (f : Addr) (oc : Value) (od : Option Addr) (kV doc pm : Value) (an : Option Addr) (cdv ct : Value) (osl : Array (Option Value)),
  PySem.W.nsIn K mainGlobals x = some (some (.ref f)) ∧ K.lookup f = some ⟨oc, od, .func (PySem.W.fnOf x x (defArgs st) (defBody st) (defScope st) .none kV doc pm an cdv ct), osl⟩ ∧ PySem.W.codeIn K cdv x = true ∧ PySem.W.keepIn K (.ref f) = true
theorem FunAt.of {K : PySem.W.Frag} {x : Str} {st : PySem.Stmt} {f : Addr} {oc : Value} {od : Option Addr} {kV doc pm : Value} {an : Option Addr} {cdv ct : Value} {osl : Array (Option Value)} (a : PySem.W.nsIn K mainGlobals x = some (some (.ref f)))
    (l : K.lookup f = some ⟨oc, od, .func (PySem.W.fnOf x x (defArgs st) (defBody st) (defScope st) .none kV doc pm an cdv ct), osl⟩) (c : PySem.W.codeIn K cdv x = true) (k : PySem.W.keepIn K (.ref f) = true) : FunAt K x st := ⟨_, _, _, _, _, _, _, _, _, _, a, l, c, k⟩
theorem FunAt.fun {K : PySem.W.Frag} {x : Str} {st : PySem.Stmt} {h : Heap} {mg : Str → Option Value} (X : K.In h) (G : h.Ns mainGlobals mg) (F : FunAt K x st) : ∃ f fd, mg x = some (.ref f) ∧ Fun K x x st f fd ∧ ∀ c P, PySem.W.tabIn K x = some (c, P) → fd.code = .ref c := by
  obtain ⟨f, oc, od, kV, doc, pm, an, cdv, ct, osl, a, l, c, k⟩ := F
  refine ⟨f, _, PySem.W.mg_of X G a, fun_mk l c k, fun c' P e => ?_⟩
  unfold PySem.W.tabIn at e
  rw [a] at e
  simp only [l] at e
  split at e
  · rename_i c₂ hc
    split at e
    · split at e
      · cases e; first | rfl | exact hc
      · cases e
    · cases e
  · cases e
/-- a name of the top -/
def GvAt (K : PySem.W.Frag) (B : List EV.Row) (x : Str) : GV → Prop
  | .fn i => ∀ r : EV.Row, B[i]? = some r → r.x = x
  | .bi => PySem.W.nsIn K mainGlobals x = some none
  | .mf id => PySem.W.nsIn K mainGlobals x = some (some (.builtin id))
  | .cst d => ∃ v u, PySem.W.nsIn K mainGlobals x = some (some u) ∧ RelV v u ∧ ∀ H ι, RV K H ι d v
  | .exc => True
theorem zOk {K : PySem.W.Frag} {B : List EV.Row} {Z : List (Str × GV)} {h : Heap} {mg : Str → Option Value} (X : K.In h) (G : h.Ns mainGlobals mg) (hZ : ∀ x v, Z.lookup x = some v → GvAt K B x v) : ∀ x v, Z.lookup x = some v → match v with
      | .fn i => ∀ r : EV.Row, B[i]? = some r → r.x = x
      | .bi => mg x = none
      | .mf id => mg x = some (.builtin id)
      | .cst d => ∃ v u, mg x = some u ∧ RelV v u ∧ ∀ H ι, RV K H ι d v
      | .exc => True := by
  intro x v e
  have z := hZ x v e
  cases v with
  | fn i => exact z
  | bi => exact PySem.W.mg_none_of X G z
  | mf id => exact PySem.W.mg_of X G z
  | cst d =>
    obtain ⟨v, u, h1, h2, h3⟩ := z
    exact ⟨v, u, PySem.W.mg_of X G h1, h2, h3⟩
  | exc => exact z
/-- what a list says name by name -/
def AllZ (P : Str → GV → Prop) : List (Str × GV) → Prop
  | [] => True
  | (x, v) :: r => P x v ∧ AllZ P r
theorem AllZ.get {P : Str → GV → Prop} : ∀ {Z : List (Str × GV)}, AllZ P Z → ∀ x v, Z.lookup x = some v → P x v
  | [], _, x, v, e => by simp at e
  | (y, w) :: r, h, x, v, e => by
    rw [List.lookup_cons] at e
    cases hx : x == y with
    | true =>
      rw [hx] at e
      cases e
      rw [beq_iff_eq.mp hx]
      exact h.1
    | false =>
      rw [hx] at e
      exact AllZ.get h.2 x v e
def AllB (P : EV.Row → Prop) : List EV.Row → Prop
  | [] => True
  | r :: rs => P r ∧ AllB P rs
theorem AllB.get {P : EV.Row → Prop} : ∀ {B : List EV.Row}, AllB P B → ∀ r ∈ B, P r
  | [], _, r, h => by simp at h
  | b :: bs, k, r, h => by
    rcases List.mem_cons.mp h with h | h
    · rw [h]; exact k.1
    · exact AllB.get k.2 r h
def isTrueR (r : R D) : Bool := match r with
  | .ok (.bl b) _ => b
  | _ => false
/-- the tables of the defs that hold generator expressions -/
def csOf (K : PySem.W.Frag) (B : List EV.Row) : List (Addr × Addr) := B.filterMap fun r => if r.gx != some false then PySem.W.tabIn K r.x else none
/-- a def's table; beside those of lambdas no other stands -/
def sepB (K : PySem.W.Frag) (B : List EV.Row) (r : EV.Row) (P : Addr) : Bool := B.all fun r' => r'.gx == some false || (r.gx == some true && r'.gx == some true) || (r.gx == none && r'.gx == none && r'.x == r.x) || (match PySem.W.tabIn K r'.x with
  | some p => !(p.2 == P)
  | none => true)
def tabB (K : PySem.W.Frag) (q : Program) (B : List EV.Row) (r : EV.Row) : Bool := r.gx == some false || (match PySem.W.tabIn K r.x with
  | some (c, P) => ((recsOf q).any (fun e => e.name == r.x) && (K.lookup P).isNone) && sepB K B r P
  | none => false)
def amOf (K : PySem.W.Frag) (r : EV.Row) : Option Am := match r.gx, PySem.W.tabIn K r.x with
  | some true, some p => some (.tab p.2)
  | none, some p => some (.lm p.2 (lq r.x))
  | _, _ => none
def amsOf (K : PySem.W.Frag) (B : List EV.Row) : List Am := B.filterMap (amOf K)
theorem amOf_tab {K : PySem.W.Frag} {r : EV.Row} {P : Addr} (h : amOf K r = some (.tab P)) : r.gx = some true ∧ ∃ c, PySem.W.tabIn K r.x = some (c, P) := by
  unfold amOf at h
  split at h
  · rename_i p e1 e2; cases h; exact ⟨e1, p.1, e2⟩
  · cases h
  · cases h
theorem amOf_lm {K : PySem.W.Frag} {r : EV.Row} {P : Addr} {q : Str} (h : amOf K r = some (.lm P q)) : r.gx = none ∧ q = lq r.x ∧ ∃ c, PySem.W.tabIn K r.x = some (c, P) := by
  unfold amOf at h
  split at h
  · cases h
  · rename_i p e1 e2; cases h; exact ⟨e1, rfl, p.1, e2⟩
  · cases h
theorem amOf_xd {K : PySem.W.Frag} {r : EV.Row} {d : Addr} {fs : List (Str × V)} (h : amOf K r = some (.xd d fs)) : False := by
  unfold amOf at h
  split at h <;> cases h
theorem ams_cs {K : PySem.W.Frag} {B : List EV.Row} : ∀ t ∈ amsOf K B, ∃ p ∈ csOf K B, t = .tab p.2 ∨ ∃ q, t = .lm p.2 q := by
  intro t ht
  obtain ⟨r, hr, h⟩ := List.mem_filterMap.mp ht
  cases t with
  | tab P =>
    obtain ⟨h1, c, h2⟩ := amOf_tab h
    exact ⟨(c, P), List.mem_filterMap.mpr ⟨r, hr, by rw [h1, h2]; rfl⟩, .inl rfl⟩
  | lm P q =>
    obtain ⟨h1, _, c, h2⟩ := amOf_lm h
    exact ⟨(c, P), List.mem_filterMap.mpr ⟨r, hr, by rw [h1, h2]; rfl⟩, .inr ⟨q, rfl⟩⟩
  | xd d fs => exact (amOf_xd h).elim
theorem tabT_of {K : PySem.W.Frag} {q : Program} {B : List EV.Row} {w : World} (hq : B.all (tabB K q B) = true) {r : EV.Row} (hr : r ∈ B) {c P : Addr} (ht : PySem.W.tabIn K r.x = some (c, P)) : TabT ⟨w, amsOf K B⟩ r P := by
  have hb := List.all_eq_true.mp hq r hr
  unfold tabB at hb
  rw [ht] at hb
  have sep : r.gx ≠ some false → ∀ r' ∈ B, ∀ c', PySem.W.tabIn K r'.x = some (c', P) → r'.gx ≠ some false → (r.gx = some true ∧ r'.gx = some true) ∨ (r.gx = none ∧ r'.gx = none ∧ r'.x = r.x) := fun ng r' hr' c' ht' ng' => by
    simp only [Bool.or_eq_true, Bool.and_eq_true, beq_iff_eq] at hb
    have h2 := (hb.resolve_left ng).2
    unfold sepB at h2
    have h3 := List.all_eq_true.mp h2 r' hr'
    rw [ht'] at h3
    simp only [Bool.or_eq_true, Bool.and_eq_true, beq_iff_eq, Bool.not_eq_true', beq_eq_false_iff_ne, ne_eq, not_true_eq_false, or_false] at h3
    rcases h3 with (h3 | h3) | h3
    · exact absurd h3 ng'
    · exact .inl h3
    · exact .inr ⟨h3.1.1, h3.1.2, h3.2⟩
  refine ⟨fun hg => ⟨List.mem_filterMap.mpr ⟨r, hr, by unfold amOf; rw [hg, ht]⟩, fun q' hm => ?_⟩, fun hg => ⟨List.mem_filterMap.mpr ⟨r, hr, by unfold amOf; rw [hg, ht]⟩, fun hm => ?_, fun q' hm => ?_⟩⟩
  · obtain ⟨r', hr', h⟩ := List.mem_filterMap.mp hm
    obtain ⟨h1, _, c', h2⟩ := amOf_lm h
    rcases sep (by rw [hg]; decide) r' hr' c' h2 (by rw [h1]; decide) with z | z
    · rw [h1] at z; cases z.2
    · rw [hg] at z; cases z.1
  · obtain ⟨r', hr', h⟩ := List.mem_filterMap.mp hm
    obtain ⟨h1, c', h2⟩ := amOf_tab h
    rcases sep (by rw [hg]; decide) r' hr' c' h2 (by rw [h1]; decide) with z | z
    · rw [hg] at z; cases z.1
    · rw [h1] at z; cases z.2.1
  · obtain ⟨r', hr', h⟩ := List.mem_filterMap.mp hm
    obtain ⟨h1, e, c', h2⟩ := amOf_lm h
    rcases sep (by rw [hg]; decide) r' hr' c' h2 (by rw [h1]; decide) with z | z
    · rw [hg] at z; cases z.1
    · rw [e, z.2.2]
theorem tabs_of {K : PySem.W.Frag} {q : Program} {B : List EV.Row} {loose : List Str} {mean : ExcName → Option Value} {mg mb : Str → Option Value} {h : Heap} (T : Top q loose mean mg mb h) (X : K.In h) (hq : B.all (tabB K q B) = true) :
    ∀ p ∈ csOf K B, PySem.W.CodeHd h p.1 p.2 ∧ h.get? p.2 = some { cls := .none, data := .fields #[] } ∧ K.lookup p.2 = none := by
  intro p hp
  obtain ⟨r, hr, hp⟩ := List.mem_filterMap.mp hp
  have hb := List.all_eq_true.mp hq r hr
  unfold tabB at hb
  split at hp
  · rename_i hg
    rw [hp] at hb
    simp only [Bool.or_eq_true, Bool.and_eq_true, beq_iff_eq, Option.isNone_iff_eq_none] at hb
    obtain ⟨⟨h1, h2⟩, _⟩ := hb.resolve_left (by simpa using hg)
    have h3 : ((recsOf q).find? (fun e => e.name == r.x)).isSome = true := by
      rw [List.find?_isSome]
      obtain ⟨e, he, hn⟩ := List.any_eq_true.mp h1
      exact ⟨e, he, hn⟩
    obtain ⟨d, hd⟩ := Option.isSome_iff_exists.mp h3
    obtain ⟨k1, k2⟩ := PySem.W.tab_of (c := p.1) (P := p.2) T X hd hp
    exact ⟨k1, k2, h2⟩
  · cases hp
theorem gx_in {K : PySem.W.Frag} {q : Program} {B : List EV.Row} (hq : B.all (tabB K q B) = true) {r : EV.Row} (hr : r ∈ B) (hg : r.gx ≠ some false) : ∃ c P, PySem.W.tabIn K r.x = some (c, P) ∧ (c, P) ∈ csOf K B := by
  have hb := List.all_eq_true.mp hq r hr
  unfold tabB at hb
  cases ht : PySem.W.tabIn K r.x with
  | none => rw [ht] at hb; simp [hg] at hb
  | some p =>
    obtain ⟨c, P⟩ := p
    exact ⟨c, P, rfl, List.mem_filterMap.mpr ⟨r, hr, by rw [if_pos (by simpa using hg)]; exact ht⟩⟩
/-- the end with the top in hand -/
theorem walk_ofTop {l : PySem.W.OpenLaw} {n k : Nat} {q : Program} {loose : List Str} {XP : (Str → Option Value) → Heap → Prop} {YP : World → Heap → Prop} {d : DefRec} {K : Params → PySem.W.Frag} {CX : World → CXT} {x : Str}
    (hn : l.most = some n) (hn2 : n ≤ sizeLine) (hdf : d.params.defaults = []) (hr : Room k callerA) (hY : ∀ (w : World) (h : Heap), YP w h → (K w.params).In h)
    (F : ∀ (w : World) (mg : Str → Option Value) (fa : Addr) (h : Heap), (K w.params).In h → h.Ns mainGlobals mg → (∀ B : List EV.Row, B.all (tabB (K w.params) q B) = true → ∀ p ∈ csOf (K w.params) B, PySem.W.CodeHd h p.1 p.2 ∧ h.get? p.2 = some { cls := .none, data := .fields #[] } ∧ (K w.params).lookup p.2 = none) → mg d.name = some (.ref fa) → LamX.LawAtS l w (K w.params) (CX w) k n x mg fa h)
    (hCX : ∀ (w : World) (H : Hp) (s : Shared) (e : Value) (s' : Shared), CX w [] H s (fun _ _ _ => False) e s' → False) :
    PySem.W.WalkO q loose XP YP l.row.toRowW d [] (fun f vs => PySem.call f vs) := by
  refine Att.attach_callB hn hdf fun w s₀ s₁ mg mb fa o pm cd doc a vs ns G Y ho hd hcd hmg hobj hints hlen hbits hg => ?_
  have KX := hY w _ Y
  obtain ⟨fd, cs, sp, hT, nT, C, hb, hsp, hF⟩ := F w mg fa _ KX G.T.g (fun B hB => tabs_of G.T KX hB) hmg
  exact LamX.law_callTs KX G.T.g G.T.b G.T.builtins G.T.nolimit hg hT nT C G.T.bmain hobj hints (Nat.le_trans hlen hn2) hr hF hb (fun H hH hS => hsp H a ns hlen hbits hH hS) fun H e s' => hCX w H s₁ e s'
def intsB : List Value → List Int → Bool
  | [], [] => true
  | .int i _ :: r, j :: s => i == j && intsB r s
  | _, _ => false
theorem intsB_of : ∀ {us : List Value} {l : List Int}, intsB us l = true → Vals (l.map V.int) us
  | [], [], _ => .nil
  | .int i t :: r, j :: s, h => by
    unfold intsB at h
    rw [Bool.and_eq_true, beq_iff_eq] at h
    exact .cons ⟨t, by rw [h.1]⟩ (intsB_of h.2)
  | [], _ :: _, h => by cases h
  | .int _ _ :: _, [], h => by cases h
  | .none :: _, _, h => by cases h
  | .bool _ :: _, _, h => by cases h
  | .str _ _ :: _, _, h => by cases h
  | .bytes _ _ :: _, _, h => by cases h
  | .float _ _ :: _, _, h => by cases h
  | .ref _ :: _, _, h => by cases h
  | .type _ :: _, _, h => by cases h
  | .builtin _ :: _, _, h => by cases h
  | .ellipsis :: _, _, h => by cases h
  | .notImplemented :: _, _, h => by cases h
def objB (o : Obj) (l : List Int) : Bool := (match o.cls with
  | .type t => t == "tuple"
  | _ => false) && (match o.data with
  | .seq its _ => decide (its.size ≤ 1000) && intsB its.toList l
  | _ => false)
def cstB (K : PySem.W.Frag) (x : Str) (l : List Int) : Bool := match PySem.W.nsIn K mainGlobals x with
  | some (some (.ref a)) => (match K.lookup a with
    | some o => objB o l
    | none => false)
  | _ => false
theorem rvs_intsE {K : PySem.W.Frag} {H : Hp} {ι : List Addr} : ∀ (l : List Int), RVs K H ι (l.map D.int) (l.map V.int)
  | [] => .nil
  | i :: l => .cons (.int i) (rvs_intsE l)
theorem cst_tup {K : PySem.W.Frag} {B : List EV.Row} {x : Str} (l : List Int) {d : D} (hd : d = .tup (l.map D.int)) (h : cstB K x l = true) : GvAt K B x (.cst d) := by
  subst hd
  unfold cstB at h
  split at h
  · rename_i a ha
    split at h
    · rename_i o ho
      unfold objB at h
      rw [Bool.and_eq_true] at h
      obtain ⟨h1, h2⟩ := h
      split at h1
      · rename_i t ht
        split at h2
        · rename_i its m hs
          rw [Bool.and_eq_true, decide_eq_true_eq] at h2
          refine ⟨.ref a, .ref a, ha, rfl, fun H ι => .tup (.inr ⟨o, its, m, ho, by rw [ht, beq_iff_eq.mp h1], hs, Nat.le_trans h2.1 (by decide), intsB_of h2.2⟩) (rvs_intsE l)⟩
        · cases h2
      · cases h1
    · cases h
  · cases h
def AllL {α : Type} (P : α → Prop) : List α → Prop
  | [] => True
  | a :: r => P a ∧ AllL P r
theorem AllL.get {α : Type} {P : α → Prop} : ∀ {l : List α}, AllL P l → ∀ a ∈ l, P a
  | [], _, a, h => by simp at h
  | b :: bs, k, a, h => by
    rcases List.mem_cons.mp h with h | h
    · rw [h]; exact k.1
    · exact AllL.get k.2 a h
theorem PxM.tr {X : Cx} {tbl : List Str} {bs : IsT} (P : PxM X tbl bs) {pn : List (Addr × Obj)} {xe : Value → Shared → Prop} : PxM (X.tr pn xe) tbl bs := ⟨P.m, P.i, P.e, P.g⟩
theorem Err0.tr {X : Cx} {x : Str} (T : Err0 X x) {pn : List (Addr × Obj)} {xe : Value → Shared → Prop} : Err0 (X.tr pn xe) x := let ⟨C, h, r⟩ := T.ex; ⟨C, ⟨h.ex, h.g, h.k, h.ns⟩, r⟩
/-- an own error without a field, at the top -/
structure Err0At (K : PySem.W.Frag) (x : Str) (Bn newId initId : String) (bmB : List Value) (C : Addr) : Prop where
  F : ExcBaseFacts Bn newId initId bmB
  ns : PySem.W.nsIn K mainGlobals x = some (some (.ref C))
  q : PySem.W.excIn K C bmB newId = true
  k : PySem.W.keepIn K (.ref C) = true
  sb : PySem.W.subIn K (.ref C) (.type "BaseException") = some true
  ty : PySem.W.typeIn K (.ref C) = some (.type "type")
theorem err0_of {X : Cx} {K : PySem.W.Frag} {h : Heap} {mg : Str → Option Value} {x : Str} {Bn newId initId : String} {bmB : List Value} {C : Addr} (KX : K.In h) (G : h.Ns mainGlobals mg) (hK : X.K = K) (hm : X.mg = mg) (A : Err0At K x Bn newId initId bmB C) : Err0 X x := by
  subst hK hm
  exact ⟨C, ⟨⟨_, _, _, _, A.F, A.q⟩, PySem.W.mg_of KX G A.ns, A.k, A.ns⟩, raises_own A.sb A.ty⟩
/-- all own errors that are caught: where they stand -/
theorem pxM_of {X : Cx} {K : PySem.W.Frag} {h : Heap} {mg : Str → Option Value} (KX : K.In h) (G : h.Ns mainGlobals mg) (hK : X.K = K) (hm : X.mg = mg) (tl : List (Str × Addr)) {tbl : List Str} (ht : tbl = tl.map (·.1)) {bs : IsT}
    (n : AllL (fun p : Str × Addr => PySem.W.nsIn K mainGlobals p.1 = some (some (.ref p.2))) tl) (e : AllL (fun p : Str × Addr => ExcC K p.2) tl)
    (m : AllL (fun p : Str × Addr => AllL (fun q : Str × Addr => PySem.W.exmOne K (.ref p.2) (.ref q.2) = some (p.1 == q.1)) tl) tl)
    (i : AllL (fun q : (Str × String) × Bool => ∃ C, PySem.W.nsIn K mainGlobals q.1.1 = some (some (.ref C)) ∧ PySem.W.kitOne K (.ref C) (.type q.1.2) = some q.2) bs) : PxM X tbl bs := by
  subst hK hm ht
  have look : ∀ x ∈ tl.map (·.1), ∀ C, PySem.W.nsIn X.K mainGlobals x = some (some (.ref C)) → (x, C) ∈ tl := fun x hx C hC => by
    obtain ⟨p, hp, rfl⟩ := List.mem_map.mp hx
    have := n.get p hp
    rw [this] at hC
    cases hC
    exact hp
  refine ⟨fun x hx y hy C D h1 h2 => ?_, fun x T b hb C hC => ?_, fun x hx C hC => ?_, fun x hx => ?_⟩
  · exact (m.get _ (look x hx C h1)).get _ (look y hy D h2)
  · unfold isLk at hb
    split at hb
    · rename_i q hq
      cases hb
      have h1 := List.find?_some hq
      rw [Bool.and_eq_true, beq_iff_eq, beq_iff_eq] at h1
      obtain ⟨C', k1, k2⟩ := i.get q (List.mem_of_find?_eq_some hq)
      rw [h1.1, hC] at k1
      cases k1
      rw [h1.2] at k2
      exact k2
    · cases hb
  · exact e.get _ (look x hx C hC)
  · obtain ⟨p, hp, rfl⟩ := List.mem_map.mp hx
    exact ⟨p.2, PySem.W.mg_of KX G (n.get p hp), n.get p hp⟩
/-- handlers, one behind the other -/
def HsE (X : Cx) (N : List Str) (ns : Ns) (g : Cfg) (tbl : List Str) (hs : List PySem.ExceptHandler) (hds : List Hd) : Prop := ∃ l, HsOk X N ns g tbl hs hds l
section
variable {X : Cx} {B : List EV.Row} {Z : List (Str × GV)} {g : Cfg} {W : WX} {n : Nat} {N : List Str} {ns : Ns} {pos : Pos}
theorem hs_nil {tbl : List Str} : HsE X N ns g tbl [] [] := ⟨[], .nil⟩
theorem hs_cons {tbl : List Str} {h : PySem.ExceptHandler} {hd : Hd} {hs : List PySem.ExceptHandler} {hds : List Hd} (a : ∃ cl C0, HOk X N ns g tbl h hd cl C0) (r : HsE X N ns g tbl hs hds) : HsE X N ns g tbl (h :: hs) (hd :: hds) :=
  let ⟨_, _, k⟩ := a
  let ⟨_, q⟩ := r
  ⟨_, .cons k q⟩
theorem s_tryE (C : Ct X B Z g W n N ns) {PX : Cx → Prop} {tbl : List Str} {bs : IsT} {b : Option Bool} (P : PX X) (hP : PxM X tbl bs) (tr : ∀ {pn : List (Addr × Obj)} {xe : Value → Shared → Prop}, PX (X.tr pn xe)) (tp : X.stack = X.env :: X.outer ∧ X.env.frame = some X.env.locals) (Dd : Dp X g n b)
    {body : List PySem.Stmt} {mb : MS} {h0 : PySem.ExceptHandler} {hs : List PySem.ExceptHandler} {hds : List Hd}
    (hb : ∀ {Y : Cx} {W : WX}, Ct Y B Z g W n N ns → PX Y → Dp Y g n b → PSs Y body (ts g W mb)) (hh : HsE X N ns g tbl (h0 :: hs) hds) : PS X (.Try body (h0 :: hs) [] [] pos) (ts g W (sTry tbl mb hds)) :=
  let ⟨_, q⟩ := hh
  s_try C P hP tr tp Dd hb q
end
end EV
namespace CB
open L2 PySem PySem.Spec PyProof.Rows
abbrev T : String := "itertools.combinations"
end CB
namespace EV
open L2 PySem PySem.Spec PyProof.Rows
end EV
namespace EV
open L2 PySem PySem.Spec PyProof.Rows
end EV
namespace EV
open L2 PySem PySem.Spec PyProof.Rows EVC
section
variable {X : Cx} {B : List EV.Row} {Z : List (Str × GV)} {g : Cfg} {W : WX} {n : Nat} {N : List Str} {ns : Ns} {x y : Str} {p pos py spos : Pos} {a b elt tg iter tg1 iter1 : PySem.Expr} {ifs ifs1 : List PySem.Expr} {scope : Scope} {wi wi1 : MI} {m m1 : MG} {t t1 : MT} {el ma mb : ME}
theorem s_setComp (A : At X g W) {C : PySem.Expr} {gs' : List Comprehension} {own : List (Str × Nat)} {pos' : Pos} {ma : MAct} {mk : Sem Value} {ob : Obj} {o0 : Addr → HO} {act : Value → Env → Sem Unit} {vsI : List Nat} {c0 : Cell} {mkD : Nat → D} {i : Nat}
    (hC : Here C) (hcl : clausesOf C = ⟨tg, iter, ifs, 0⟩ :: gs') (hev : evalThenUse C X.env (assign (.Name y py) X.env) = (do let _ ← comprehension C scope X.env pos' mk false (eval iter X.env) (some (assign (.Name y py) X.env))))
    (hmk : ∀ {A : Around} {E : Value → Shared → Prop} {Q : Value → Shared → Prop} {s : Shared}, Q (.ref s.heap.objs.size) { s with heap := s.heap.push ob } → wpAny (model X.prog X.w) A mk Q E s)
    (hob : ∀ {H : Hp} {s : Shared} {σ : L2.St} {pins : List (Addr × Obj)}, Inv X pins σ H s → ObjOk X.prog X.w (upd H s.heap.objs.size (o0 s.heap.objs.size)) (s.heap.push ob) s.heap.objs.size (o0 s.heap.objs.size))
    (hc0 : ∀ {H : Hp} {ι : List Addr} {D : Addr}, H D = some (o0 D) → CellOk X.w g.K H ι c0 D) (hrv : ∀ {H : Hp} {ι : List Addr} {r : Nat} {a : Addr}, ι[r]? = some a → RV g.K H ι (mkD r) (.ref a))
    (heq : ∀ (it : Value) (D : Addr) (env : Env), compTurn C 0 it (.ref D) env = oneTurn C 0 tg iter ifs it (.ref D) env (act (.ref D) env)) (hsub : ∀ j ∈ vsI, j ∈ own.map (·.2))
    (hN : X.N.Nodup) (hy : X.N[i]? = some y) (hyl : X.env.scope.names.lookup y = some .local) (hsw : swapsWith C (some (.Name y py)) spos.line X.env = pure true) (hi : PI X tg iter (ti g W wi)) (ok : BlkOk X.N X.env.scope scope own)
    (hg : ∀ (s : Shared) (H : Hp) (c : Addr) (cl : List (Str × Addr)) (fp : List Addr), PG (X.blk s H scope (compEnvC scope cl c X.env) fp) tg (gs g (own.map (·.2)) m))
    (ht : ∀ (s : Shared) (H : Hp) (c : Addr) (cl : List (Str × Addr)) (fp : List Addr), PTs (X.blk s H scope (compEnvC scope cl c X.env) fp) ifs (tt g WN t))
    (ha : ∀ (s : Shared) (H : Hp) (c : Addr) (cl : List (Str × Addr)) (fp : List Addr) (D : Addr), PAct (X.blk s H scope (compEnvC scope cl c X.env) fp) vsI (act (.ref D) (compEnvC scope cl c X.env)) (tact g ma D)) (hs : ∀ x, foldedSetIterable iter X.env x = pure x) :
    PS X (.Assign [.Name y py] C spos) (ts g W (sAsg (mComp c0 mkD wi m t ma (own.map (·.2))) (gNm i))) := by
  refine ⟨fun pins s σ H D I h => ?_⟩
  rw [exec_Assign_Name_used _ _ _ _ hsw]
  refine wpAny_bind (wpAny_standAt (wpAny_bind ?_))
  rw [hev]
  have h0 : te g W (mComp c0 mkD wi m t ma (own.map (·.2))) σ H (fun x H1 => gName i x σ H1 D.nx) := by
    obtain ⟨ι, e, s, R, q, h⟩ := h
    exact ⟨ι, e, s, R, q, tRs.bind h q fun d s1 v H1 ι1 _ f1 R1 r1 h1 => h1 _ H1 ι1 Fw.refl R1 ((q.fw f1).set r1 i)⟩
  refine wpAny_bind (thn (comp_run (Q := fun x H1 => gName i x σ H1 D.nx) (Qf := fun _ s' => SP X pins D .next s') (use := some (assign (.Name y py) X.env)) hC hcl hmk hob heq hsub A.calm hN I hi ok hg ht ha hs ?_ fun L c s' m H' I' q hn f => ?_) fun _ s' hq => wpAny_pure (wpAny_pure hq))
  · obtain ⟨ι, e, st, R, q, h⟩ := h0
    refine ⟨ι, e, st, R, q, tR.bind h fun sr s1 J H1 ι1 _ f1 R1 r1 h1 D' hD => ?_⟩
    have hcell : CellOk g.T.w g.K (upd H1 D' (o0 D')) (ι1 ++ [D']) c0 D' := by
      rw [← A.w]
      exact hc0 upd_same
    have fD := Fw.newA (K := g.K) (H := H1) (ι := ι1) (p := D') (o := o0 D') hD
    have R2 := R1.alloc hD hcell
    have hi2 : (ι1 ++ [D'])[s1.n]? = some D' := by rw [← R1.len]; simp
    refine in_sound (Z := fun H' => gName i (.ref D') σ H' D.nx) r1 fD R2 ((q.fw f1).fw fD) hi2 ?_
    have h2 := tR.fw fD h1
    revert h2
    cases hr : inF s1.n sr m t ma 100000 0 g.F (wipeE e (own.map (·.2))) (s1.new c0) with
    | ok u s2 => exact fun h2 v H3 ι3 f3 R3 _ => tR.of (Q := fun x H1 => gName i x σ H1 D.nx) (tR.fw f3 h2) R3 (hrv (f3.at hi2))
    | ex x s2 => exact fun h2 => h2.elim
    | no => exact fun h2 => h2.elim
  · show wpAny _ _ (assign (.Name y py) X.env (.ref L)) _ _ _
    refine wpAny_assign_Name (store_ok2 (v := V.ref L) I' hN hy (.inl hyl) rfl (fun s2 I2 hsb => ?_) (.inr hyl))
    obtain ⟨ad, sb, had⟩ := hsb
    obtain ⟨f0, f1, f2, f3, f4, f5⟩ := f
    have hne : c ≠ ad := had.elim (fun z => by rw [z]; exact f1) fun z e => f4 y ad z e.symm
    exact ⟨m, hn.sameBut sb hne, fun h3 sb3 => ⟨_, H', I2.turned (t' := s2.toks) (fun b o hb e => (sb3.2 b hb).trans e) f0 f1 f3 f4 f5, q⟩⟩
theorem set_list2_ (C : Ct X B Z g W n N ns) (i : Nat) (hy : nthB N i y = true) (hl : lclB ns y = true) (h1 : (py.line == pos.line) = true) (h2 : swpB scope y = true) (own : List (Str × Nat)) (vs1 : List Nat) (hv : subB vs1 own = true) (hb : blkC N (scOf ns) scope own = true) (hi : PI X tg iter (ti g W wi))
    (h : ∀ {Y : Cx}, Ct Y B Z g WN n N scope.names → PG Y tg (gs g (own.map (·.2)) m) ∧ PTs Y ifs (tt g WN t) ∧ PI Y tg1 iter1 (ti g WN wi1) ∧ PG Y tg1 (gs g vs1 m1) ∧ PTs Y ifs1 (tt g WN t1) ∧ PE Y elt (te g WN el))
    (hs : ∀ x, foldedSetIterable iter X.env x = pure x := by intro _; rfl) (hs1 : ∀ env x, foldedSetIterable iter1 env x = pure x := by intro _ _; rfl) :
    PS X (.Assign [.Name y py] (.ListComp elt [⟨tg, iter, ifs, 0⟩, ⟨tg1, iter1, ifs1, 0⟩] scope pos) spos) (ts g W (sAsg (mComp (.lst []) D.lst wi m t (aIn wi1 m1 t1 (aApp el) vs1) (own.map (·.2))) (gNm i))) :=
  have ok := C.blkOk hb
  s_setComp (act := fun acc env => innerAct (.ListComp elt [⟨tg, iter, ifs, 0⟩, ⟨tg1, iter1, ifs1, 0⟩] scope pos) iter1 acc env) (o0 := fun _ => .lst []) (vsI := vs1) C.at_ here_list rfl rfl (fun h => newL_ok0 h) (fun _ => hob_list) (fun {H ι D} h => ⟨[], h, .nil⟩) (fun h => .lst h) (fun _ _ _ => heq_list2 _ _ _) (subB_of hv)
    (by rw [C.eN]; exact C.nd) (C.nth hy) (C.lcl hl) (C.swap hl h1 h2) hi ok (fun _ _ _ _ _ => (h (C.in_ ok.kind)).1) (fun _ _ _ _ _ => (h (C.in_ ok.kind)).2.1)
    (fun s H c cl fp D => act_in here_list rfl C.at_.calm rfl (hs1 _) (h (C.in_ ok.kind)).2.2.1 (h (C.in_ ok.kind)).2.2.2.1 (h (C.in_ ok.kind)).2.2.2.2.1 (act_app (C.in_ (s := s) (H := H) (cl := cl) (c := c) (fp := fp) ok.kind).at_ rfl (h (C.in_ ok.kind)).2.2.2.2.2) (fun _ => rfl)) hs
end
end EV
namespace EV
open L2 PySem PySem.Spec PyProof.Rows EVC
def KvR : List (V × V) → List DictEntry → Prop := Paired fun (p : V × V) (e : DictEntry) => RelV p.1 e.key ∧ RelV p.2 e.val
theorem KvR.get {kv : List (V × V)} {es : List DictEntry} (h : KvR kv es) : ∀ {i : Nat} {p : V × V}, kv[i]? = some p → ∃ e, es[i]? = some e ∧ RelV p.1 e.key ∧ RelV p.2 e.val := by
  unfold KvR at h
  induction h with
  | nil => intro i p e; simp at e
  | cons h _ ih =>
    intro i p e
    cases i with
    | zero => simp at e; subst e; exact ⟨_, rfl, h.1, h.2⟩
    | succ i => exact ih (i := i) (by simpa using e)
theorem paired_of_get {α β : Type} {F : α → β → Prop} : ∀ {l : List α} {m : List β}, l.length = m.length → (∀ (i : Nat) (a : α) (b : β), l[i]? = some a → m[i]? = some b → F a b) → Paired F l m
  | [], [], _, _ => .nil
  | a :: l, b :: m, hl, h => .cons (h 0 a b rfl rfl) (paired_of_get (by simpa using hl) fun i x y hx hy => h (i + 1) x y (by simpa using hx) (by simpa using hy))
  | [], _ :: _, hl, _ => by simp at hl
  | _ :: _, [], hl, _ => by simp at hl
theorem kvget {κ : Type} {ks : List (κ × V)} {vs : List (κ × Value)} (r : KV ks vs) : ∀ {i : Nat} {q : κ × V}, ks[i]? = some q → ∃ p, vs[i]? = some p ∧ q.1 = p.1 ∧ RelV q.2 p.2 := by
  unfold KV at r
  induction r with
  | nil => intro i q e; simp at e
  | cons h _ ih =>
    intro i q e
    cases i with
    | zero => simp at e; subst e; exact ⟨_, rfl, h.1, h.2⟩
    | succ i => exact ih (i := i) (by simpa using e)
def ItR (d : Addr) (o : Obj) (u : HO) (kv : List (V × V)) : It :=
  ⟨fun i H => H d = some (.frz o u) ∧ i < kv.length, fun i H x H' => ∃ T k v, kv[i]? = some (k, v) ∧ x = .ref T ∧ H T = none ∧ H' = upd H T (.tup [k, v]), fun i H => H d = some (.frz o u) ∧ kv.length ≤ i⟩
theorem turn_raw {P : Program} {w : World} {K : PySem.W.Frag} {d : Addr} {o : Obj} {u : HO} {es : Array DictEntry} {ep : Nat} {kv : List (V × V)} {elts : List PySem.Expr} {kk : Nat} {tpos : Pos} (it : Addr) (hod : o.data = .dict es ep) (hex : o.ExactDict) (hr : KvR kv es.toList) :
    Turn P w K (.Tuple elts kk tpos) (ItR d o u kv) [it] it (fun i h => ∃ ok ov, IsItemIter h it d i es.size ep ok ov) where
  mem := by simp
  obj := fun i h st b hb => by
    rw [List.mem_singleton.mp hb]
    obtain ⟨ok, ov, e⟩ := st
    exact ⟨_, e, fun v z => nomatch z⟩
  keep := fun i h h' st k => let ⟨ok, ov, e⟩ := st; ⟨ok, ov, k it (by simp) _ e⟩
  item := by
    intro X hP hw hK hc i pins s σ H E I hf st hg
    subst hP hw hK
    obtain ⟨hd, hi⟩ := hg
    obtain ⟨ho, _⟩ := I.hok d _ hd
    have hm : s.heap.DictRaw d es ep := ⟨o, ho, hex, hod⟩
    obtain ⟨⟨k, v⟩, hkv⟩ : ∃ p, kv[i]? = some p := ⟨kv[i], List.getElem?_eq_getElem hi⟩
    obtain ⟨en, hen, r1, r2⟩ := hr.get hkv
    obtain ⟨ok, ov, he⟩ := st
    have hlt : it < s.heap.objs.size := Heap.lt_size he
    have hie : i < es.size := by
      have := (List.getElem?_eq_some_iff.mp hen).1
      simpa using this
    have een : es[i] = en := by
      have := (List.getElem?_eq_some_iff.mp hen).2
      simpa using this
    refine wpAny_pyNext_items_item_raw he hm hie fun h' ho' hT hz hk => ?_
    rw [een] at ho' hT
    refine ⟨_, rfl, wpAny_letOwnedTupleGo_items (s := { s with heap := h' }) ho' fun h'' he' sb => ?_⟩
    have hT2 : h''.get? s.heap.objs.size = some { cls := .type "tuple", data := .seq #[en.key, en.val] } := (sb.2 _ (Nat.ne_of_gt hlt)).trans hT
    have new : ObjOk X.prog X.w (upd H s.heap.objs.size (.tup [k, v])) h'' s.heap.objs.size (.tup [k, v]) :=
      ⟨by show 2 ≤ sizeLine; decide, [en.key, en.val], .cons r1 (.cons r2 .nil), ⟨_, hT2, rfl, _, rfl⟩⟩
    have I1 : Inv X pins σ (upd H s.heap.objs.size (.tup [k, v])) { s with heap := h'' } :=
      I.turnedNew (t' := s.toks) (ch := [it]) (fun b ob hb q => (sb.2 b (fun z => hb (by simp [z]))).trans (hk b ob (fun z => hb (by simp [z])) q)) hf (Nat.le_refl _) new
    refine ⟨.ref s.heap.objs.size, _, I1, rfl, ⟨_, k, v, hkv, rfl, I.hok.fresh (Nat.le_refl _), rfl⟩, ⟨en.key, en.val, he'⟩, fun b hb => ?_⟩
    rw [List.mem_singleton.mp hb, upd_ne (Nat.ne_of_lt hlt)]
    exact (hf it (by simp)).1
  done := by
    intro X hP hw hK hc i pins s σ H E I hf st hg
    subst hP hw hK
    obtain ⟨hd, hi⟩ := hg
    obtain ⟨f0, f1, f2, f3, f4, f5⟩ := hf it (by simp)
    obtain ⟨ho, _⟩ := I.hok d _ hd
    have hm : s.heap.DictRaw d es ep := ⟨o, ho, hex, hod⟩
    obtain ⟨ok, ov, he⟩ := st
    have hl : kv.length = es.size := by
      have := Paired.length hr
      simpa using this
    exact wpAny_pyNext_items_end_raw (I.ok.hd hc) he hm (by omega) fun h' eb => ⟨rfl, I.turned (t' := s.toks) (fun b ob hb q => eb b ob hb q) f0 f1 f3 f4 f5⟩
  self := fun A i s Q E st h => let ⟨_, _, e⟩ := st; PySem.W.kcp_self e h
/-- what a dict's description says of its entries -/
def KvOf (w : World) (d : Addr) (u : HO) (kv : List (V × V)) : Prop := (∃ l : List DEnt, u = DAo w d l ∧ kv = l.map fun q => (V.ref q.a, q.v)) ∨ ∃ ks : List (Key × V), u = .dK ks ∧ kv = ks.map fun q => (kV q.1, q.2)
theorem kv_facts {P : Program} {w : World} {H : Hp} {h : Heap} {d : Addr} {o : Obj} {u : HO} {kv : List (V × V)} (ok : ObjOk P w H h d (.frz o u)) (hk : KvOf w d u kv) : ∃ es ep, o.data = .dict es ep ∧ o.ExactDict ∧ (d == sysModules) = false ∧ KvR kv es.toList := by
  obtain ⟨ho, ok⟩ := ok
  rcases hk with ⟨l, rfl, rfl⟩ | ⟨ks, rfl, rfl⟩
  · obtain ⟨⟨⟨xs, pr, o', es, ep, h1, h2, h3, h4, h5⟩, hs⟩, hkeep⟩ := ok
    clear hkeep
    rw [ho] at h1
    cases h1
    refine ⟨es, ep, h3, h2, hs, ?_⟩
    rw [h4]
    clear h4 h5 h3
    unfold KvR
    induction pr with
    | nil => exact .nil
    | cons h _ ih => exact .cons ⟨congrArg Value.ref h.2.1.symm, h.2.2⟩ ih
  · obtain ⟨hz, hs, vs, rel, dd⟩ := ok
    obtain ⟨o', es, ep, h1, h2, h3, hk, hp, hn⟩ := id dd
    rw [ho] at h1
    cases h1
    refine ⟨es, ep, h3, h2, hs, ?_⟩
    obtain ⟨es', ep', ⟨o2, g1, g2, g3⟩, hsz, hget⟩ := Heap.DictOf.raw dd
    rw [ho] at g1
    cases g1
    rw [h3] at g3
    cases g3
    refine paired_of_get (by rw [List.length_map, show es.toList.length = vs.length from hsz]; exact Paired.length rel) fun i p e hp he => ?_
    rw [List.getElem?_map] at hp
    obtain ⟨q, hq, rfl⟩ := Option.map_eq_some_iff.mp hp
    obtain ⟨r, hr, e1, e2⟩ := kvget rel hq
    have hi : i < es.size := by
      have := (List.getElem?_eq_some_iff.mp he).1
      simpa using this
    have he2 : es[i] = e := by
      have := (List.getElem?_eq_some_iff.mp he).2
      simpa using this
    obtain ⟨z1, z2⟩ := hget i hi r.1 r.2 hr
    rw [he2] at z1 z2
    exact ⟨relV_key (by rw [e1]; exact z1), by rw [z2]; exact e2⟩
/-- the dict's items: it is locked -/
def iRaw (w : World) (td : TE) : TI := fun σ H R => td σ H fun x H1 => ∃ d o u kv, x = .ref d ∧ H1 d = some (.frz o u) ∧ KvOf w d u kv ∧ R (ItR d o u kv) H1
theorem pi_raw {X : Cx} {e : PySem.Expr} {td : TE} {apos cpos tpos : Pos} {elts : List PySem.Expr} {kk : Nat} (he : PE X e td) (hbase : attributeBase e "items" X.env (eval e X.env) = eval e X.env := by rfl) (hline : (apos.endLine == cpos.line) = true := by rfl) :
    PI X (.Tuple elts kk tpos) (.Call (.Attribute e "items" apos) [] [] cpos) (iRaw X.w td) := by
  refine ⟨fun pins s σ H R I h => ?_⟩
  refine wpAny_Call_method (T := "dict") (id := "dict.items") hbase rfl hline F.plainAttrs_dict F.slot_dict_items F.type_dict_items (thn (he.run pins s σ H _ I h) fun v s1 ⟨x, H1, I1, rx, d, o, u, kv, ex, hd, hkv, q⟩ => ?_)
  subst ex
  obtain rfl : v = Value.ref d := rx
  obtain ⟨es, ep, hod, hex, hs, hr⟩ := kv_facts (I1.hok d _ hd) hkv
  obtain ⟨ho, _⟩ := I1.hok d _ hd
  have hm : s1.heap.DictRaw d es ep := ⟨o, ho, hex, hod⟩
  refine ⟨hm.typeIs, ?nd, ?_⟩
  case nd => intro b eb; cases eb; exact ⟨o, ho, hex.2.1⟩
  have I2 : Inv X pins σ H1 { s1 with heap := s1.heap.push { cls := .type "dict_items", data := .fields #[.ref d] } } := I1.kept (t' := s1.toks) fun b ob q => Heap.get?_push_of_some _ q
  have fin : wpAny (model X.prog X.w) X.A (pyIter (.ref s1.heap.objs.size)) (PIE X pins σ (.Tuple elts kk tpos) R) X.xe { s1 with heap := s1.heap.push { cls := .type "dict_items", data := .fields #[.ref d] } } := by
    refine wpAny_pyIter_items_raw (d := d) ⟨_, Heap.get?_push_size _ rfl, rfl, rfl⟩ (hm.at fun ob q => Heap.get?_push_of_some _ q) (pi_one (tk := s1.toks) I2 _ (turn_raw _ hod hex hr) ⟨.none, .none, ?_⟩ q)
    exact Heap.get?_push_size _ rfl
  show wpAny _ _ (callWith cpos (.builtin "dict.items") [.ref d] [] []) _ X.xe s1
  exact method_meetsIn F.slot_dict_items F.entry_dict_items rfl (PySem.evalArgs_none ⟨rfl, hm.typeIs, F.args_dict_items_1 _, _, meets_dict_items_raw d hs, ⟨es, ep, hm⟩, fin⟩)
/-- behind an expression its dict is locked, if it isn't yet -/
def tLk (te : TE) : TE := fun σ H Q => te σ H fun v H1 => ∃ d, v = .ref d ∧ ((∃ u, H1 d = some u ∧ Mut (some u) ∧ ∀ o, Q v (upd H1 d (.frz o u))) ∨ Q v H1)
theorem pe_lk {X : Cx} {e : PySem.Expr} {td : TE} (h : PE X e td) : PE X e (tLk td) := by
  refine ⟨fun pins s σ H Q I hh => ?_⟩
  refine thn (h.run pins s σ H _ I hh) fun u s1 ⟨v, H1, I1, r1, d, ev, q⟩ => ?_
  rcases q with ⟨x, hx, mu, q⟩ | q
  · obtain ⟨od, I2⟩ := I1.lock hx mu
    exact ⟨v, _, I2, r1, q od⟩
  · exact ⟨v, H1, I1, r1, q⟩
def itemsR : D → S → R Src
  | .dct r, s => match s.get r with
    | some (.dct kvs) => .ok (.tup (kvs.map fun p => .tup [p.1, p.2])) (s.put r (.fdc kvs))
    | some (.fdc kvs) => .ok (.tup (kvs.map fun p => .tup [p.1, p.2])) s
    | some (.dci kvs) => .ok (.tup (kvs.map fun p => .tup [.int p.1, p.2])) (s.put r (.fdi kvs))
    | some (.fdi kvs) => .ok (.tup (kvs.map fun p => .tup [.int p.1, p.2])) s
    | _ => .no
  | _, _ => .no
def iItems (a : ME) : MI := fun F e s => (a F e s).bind itemsR
section
variable {X : Cx} {g : Cfg} {W : WX} {E : XK} {H : Hp} {ι : List Addr}
def KvD (K : PySem.W.Frag) (H : Hp) (ι : List Addr) : List (D × D) → List (V × V) → Prop := Paired fun (p : D × D) (q : V × V) => RV K H ι p.1 q.1 ∧ RV K H ι p.2 q.2
theorem KvD.get {kvs : List (D × D)} {kv : List (V × V)} (h : KvD g.K H ι kvs kv) : ∀ {i : Nat} {p : D × D}, kvs[i]? = some p → ∃ q, kv[i]? = some q ∧ RV g.K H ι p.1 q.1 ∧ RV g.K H ι p.2 q.2 := by
  unfold KvD at h
  induction h with
  | nil => intro i p e; simp at e
  | cons h _ ih =>
    intro i p e
    cases i with
    | zero => simp at e; subst e; exact ⟨_, rfl, h.1, h.2⟩
    | succ i => exact ih (i := i) (by simpa using e)
theorem src_kv {a : Addr} {o : Obj} {u : HO} {kvs : List (D × D)} {kv : List (V × V)} (hH : H a = some (.frz o u)) (r : KvD g.K H ι kvs kv) : SrcOk g H ι (.tup (kvs.map fun p => .tup [p.1, p.2])) (ItR a o u kv) := by
  intro H1 ι1 s f R i
  have hF := f.frz a _ _ hH
  have hl : kvs.length = kv.length := Paired.length r
  refine ⟨fun e => ⟨hF, ?_⟩, fun d e => ?_⟩
  · have := List.getElem?_eq_none_iff.mp (Option.some.inj e)
    rw [List.length_map] at this
    omega
  · have e' : (kvs.map fun p => D.tup [p.1, p.2])[i]? = some d := Option.some.inj e
    rw [List.getElem?_map] at e'
    obtain ⟨p, hp, rfl⟩ := Option.map_eq_some_iff.mp e'
    obtain ⟨q, hq, r1, r2⟩ := r.get hp
    refine ⟨⟨hF, (List.getElem?_eq_some_iff.mp hq).1⟩, fun x H' y => ?_⟩
    obtain ⟨T, k, v, y1, y2, y3, y4⟩ := y
    rw [hq] at y1
    cases y1
    exact pair_ok R (r1.fw f) (r2.fw f) y2 y3 y4
theorem KvD.ofD {kvs : List (D × D)} {l : List DEnt} (r : DRel g.K H ι kvs l) : KvD g.K H ι kvs (l.map fun q => (V.ref q.a, q.v)) := by
  unfold DRel at r
  unfold KvD
  induction r with
  | nil => exact .nil
  | cons h _ ih => exact .cons ⟨h.2.1, h.2.2⟩ ih
theorem KvD.ofI {kvs : List (Int × D)} {l : List (Key × V)} (r : IRel g.K H ι kvs l) : KvD g.K H ι (kvs.map fun p => (.int p.1, p.2)) (l.map fun q => (kV q.1, q.2)) := by
  unfold IRel at r
  unfold KvD
  induction r with
  | nil => exact .nil
  | cons h _ ih => exact .cons ⟨by show RV _ _ _ (.int _) (kV _); rw [h.1]; exact .int _, h.2⟩ ih
theorem map_ints (kvs : List (Int × D)) : (kvs.map fun p => D.tup [.int p.1, p.2]) = ((kvs.map fun p => ((.int p.1 : D), p.2)).map fun p => D.tup [p.1, p.2]) := by rw [List.map_map]; rfl
theorem i_items (A : At X g W) {a : PySem.Expr} {ma : ME} {apos cpos tpos : Pos} {elts : List PySem.Expr} {kk : Nat} (ha : PE X a (te g W ma)) (hbase : attributeBase a "items" X.env (eval a X.env) = eval a X.env := by rfl) (hline : (apos.endLine == cpos.line) = true := by rfl) :
    PI X (.Tuple elts kk tpos) (.Call (.Attribute a "items" apos) [] [] cpos) (ti g W (iItems ma)) :=
  PI.imp (pi_raw (pe_lk ha) hbase hline) fun σ H Q ⟨ι, e, s, R, q, h⟩ => ⟨ι, e, s, R, q, tR.bind h fun d s1 v H1 ι1 he f1 R1 r1 h1 => by
    clear he
    unfold itemsR at h1
    split at h1
    · rename_i r
      cases r1 with
      | @dct _ a ha1 =>
        cases hc : s1.get r with
        | none => simp only [hc] at h1; exact h1.elim
        | some c =>
          simp only [hc] at h1
          cases c with
          | dct kvs =>
            obtain ⟨l, hH, hr, hz⟩ := R1.at ha1 hc
            rw [← A.w] at hH
            refine ⟨a, rfl, .inl ⟨_, hH, True.intro, fun o => ?_⟩⟩
            have f2 := Fw.put (o := .frz o (DAo X.w a l)) R1 hc rfl ha1
            have R2 := R1.write (o := .frz o (DAo X.w a l)) hc rfl ha1 (c' := .fdc kvs) ⟨l, o, by rw [← A.w]; exact upd_same, hr.imp fun r => r.fw f2, hz⟩
            exact ⟨a, o, _, _, rfl, upd_same, .inl ⟨l, rfl, rfl⟩, h1 _ _ _ f2 R2 (src_kv upd_same (KvD.ofD (hr.imp fun r => r.fw f2)))⟩
          | fdc kvs =>
            obtain ⟨l, o, hH, hr, hz⟩ := R1.at ha1 hc
            rw [← A.w] at hH
            exact ⟨a, rfl, .inr ⟨a, o, _, _, rfl, hH, .inl ⟨l, rfl, rfl⟩, h1 _ _ _ Fw.refl R1 (src_kv hH (KvD.ofD hr))⟩⟩
          | dci kvs =>
            obtain ⟨l, hH, hr, hz⟩ := R1.at ha1 hc
            refine ⟨a, rfl, .inl ⟨_, hH, True.intro, fun o => ?_⟩⟩
            have f2 := Fw.put (o := .frz o (.dK l)) R1 hc rfl ha1
            have R2 := R1.write (o := .frz o (.dK l)) hc rfl ha1 (c' := .fdi kvs) ⟨l, o, upd_same, hr.imp fun r => r.fw f2, hz⟩
            refine ⟨a, o, _, _, rfl, upd_same, .inr ⟨l, rfl, rfl⟩, h1 _ _ _ f2 R2 ?_⟩
            rw [map_ints]
            exact src_kv upd_same (KvD.ofI (hr.imp fun r => r.fw f2))
          | fdi kvs =>
            obtain ⟨l, o, hH, hr, hz⟩ := R1.at ha1 hc
            refine ⟨a, rfl, .inr ⟨a, o, _, _, rfl, hH, .inr ⟨l, rfl, rfl⟩, h1 _ _ _ Fw.refl R1 ?_⟩⟩
            rw [map_ints]
            exact src_kv hH (KvD.ofI hr)
          | _ => exact h1.elim
    · exact h1.elim⟩
end
end EV
namespace EV
open L2 PySem PySem.Spec PyProof.Rows EVC
def ifind (k : Int) (kvs : List (Int × D)) : Option D := (kvs.find? fun p => decide (p.1 = k)).map (·.2)
def iput (kvs : List (Int × D)) (k : Int) (y : D) : List (Int × D) := if (ifind k kvs).isSome then kvs.map (fun p => if p.1 = k then (p.1, y) else p) else kvs ++ [(k, y)]
/-- which dict it is: int keys, or tuples and locked -/
def kindD (s : S) : D → Option Bool
  | .dct r => match s.get r with
    | some (.dci _) => some true
    | some (.fdi _) => some true
    | some (.fdc _) => some false
    | _ => none
  | _ => none
def onI {α : Type} (d : D) (s : S) (f : Nat → List (Int × D) → R α) : R α := match d with
  | .dct r => match s.get r with
    | some (.dci kvs) => f r kvs
    | some (.fdi kvs) => f r kvs
    | _ => .no
  | _ => .no
/-- .. that may be written -/
def onIw {α : Type} (d : D) (s : S) (f : Nat → List (Int × D) → R α) : R α := match d with
  | .dct r => match s.get r with
    | some (.dci kvs) => f r kvs
    | _ => .no
  | _ => .no
def onF {α : Type} (d : D) (s : S) (f : Nat → List (D × D) → R α) : R α := match d with
  | .dct r => match s.get r with
    | some (.fdc kvs) => if plKs kvs = true then f r kvs else .no
    | _ => .no
  | _ => .no
def onInt {α : Type} (x : D) (f : Int → R α) : R α := match x with
  | .int i => f i
  | _ => .no
section
variable {X : Cx} {g : Cfg} {W : WX} {E : XK} {pins : List (Addr × Obj)} {s : Shared} {σ : L2.St} {H : Hp} {ι : List Addr} {st : S}
theorem ifind_ok {K : PySem.W.Frag} (k : Int) {kvs : List (Int × D)} {l : List (Key × V)} (h : IRel K H ι kvs l) : (ifind k kvs = none → valV l (.inl k) = none) ∧ ∀ y, ifind k kvs = some y → ∃ v, valV l (.inl k) = some v ∧ RV K H ι y v := by
  unfold IRel at h
  induction h with
  | nil => exact ⟨fun _ => rfl, fun y e => by cases e⟩
  | @cons p q ps qs h t ih =>
    obtain ⟨h1, h2⟩ := h
    by_cases e : p.1 = k
    · have e2 : q.1 = Sum.inl k := by rw [h1, e]
      rw [valV_pos e2]
      have : ifind k (p :: ps) = some p.2 := by unfold ifind; rw [List.find?_cons, decide_eq_true e]; rfl
      rw [this]
      exact ⟨(fun z => by cases z), (fun y z => by cases z; exact ⟨_, rfl, h2⟩)⟩
    · have e2 : ¬ q.1 = Sum.inl k := by rw [h1]; intro z; exact e (Sum.inl.inj z)
      rw [valV_neg e2]
      have : ifind k (p :: ps) = ifind k ps := by unfold ifind; rw [List.find?_cons, decide_eq_false e]
      rw [this]
      exact ih
theorem ifind_some {K : PySem.W.Frag} (k : Int) {kvs : List (Int × D)} {l : List (Key × V)} (h : IRel K H ι kvs l) : (valV l (.inl k)).isSome = (ifind k kvs).isSome := by
  obtain ⟨f1, f2⟩ := ifind_ok k h
  cases hf : ifind k kvs with
  | none => rw [f1 hf]; rfl
  | some y => obtain ⟨v, e, _⟩ := f2 y hf; rw [e]; rfl
theorem iput_ok {K : PySem.W.Frag} {k : Int} {y : D} {v : V} (ry : RV K H ι y v) {kvs : List (Int × D)} {l : List (Key × V)} (h : IRel K H ι kvs l) : IRel K H ι (iput kvs k y) (putK l (.inl k) v) := by
  unfold iput putK
  rw [valV_any, ifind_some k h]
  by_cases e : (ifind k kvs).isSome = true
  · rw [if_pos e, if_pos e]
    clear e
    unfold IRel at h ⊢
    induction h with
    | nil => exact .nil
    | @cons p q ps qs h t ih =>
      rw [List.map_cons, List.map_cons]
      refine .cons ?_ ih
      obtain ⟨h1, h2⟩ := h
      by_cases e : p.1 = k
      · rw [if_pos e, if_pos (show q.1 = Sum.inl k by rw [h1, e])]; exact ⟨h1, ry⟩
      · rw [if_neg e, if_neg (show ¬ q.1 = Sum.inl k by rw [h1]; intro z; exact e (Sum.inl.inj z))]; exact ⟨h1, h2⟩
  · rw [if_neg e, if_neg e]; exact Paired.snoc h ⟨rfl, ry⟩
theorem iput_len (kvs : List (Int × D)) (k : Int) (y : D) : (iput kvs k y).length ≤ kvs.length + 1 := by
  unfold iput
  split
  · rw [List.length_map]; omega
  · simp
theorem onI_ok {α β : Type} {Rl : Hp → List Addr → α → β → Prop} {d : D} {f : Nat → List (Int × D) → R α} {Q : β → Hp → Prop} {v : V} (R : RS g.K g.T H ι st) (h : RV g.K H ι d v) (q : tR g E Rl (onI d st f) H ι Q) :
    ∃ r a kvs l, d = .dct r ∧ v = .ref a ∧ ι[r]? = some a ∧ Rd H a (.dK l) ∧ IRel g.K H ι kvs l ∧ kvs.length ≤ 100000 ∧ tR g E Rl (f r kvs) H ι Q := by
  unfold onI at q
  cases h with
  | @dct r a h1 =>
    simp only at q
    cases hs : st.get r with
    | none => rw [hs] at q; exact q.elim
    | some c =>
      rw [hs] at q
      cases c with
      | dci kvs => obtain ⟨l, hH, hr, hz⟩ := R.at h1 hs; exact ⟨r, a, kvs, l, rfl, rfl, h1, .inl hH, hr, hz, q⟩
      | fdi kvs => obtain ⟨l, o, hH, hr, hz⟩ := R.at h1 hs; exact ⟨r, a, kvs, l, rfl, rfl, h1, .inr ⟨o, hH⟩, hr, hz, q⟩
      | _ => exact q.elim
  | _ => exact q.elim
theorem onIw_ok {α β : Type} {Rl : Hp → List Addr → α → β → Prop} {d : D} {f : Nat → List (Int × D) → R α} {Q : β → Hp → Prop} {v : V} (R : RS g.K g.T H ι st) (h : RV g.K H ι d v) (q : tR g E Rl (onIw d st f) H ι Q) :
    ∃ r a kvs l, d = .dct r ∧ v = .ref a ∧ ι[r]? = some a ∧ st.get r = some (.dci kvs) ∧ H a = some (.dK l) ∧ IRel g.K H ι kvs l ∧ kvs.length ≤ 100000 ∧ tR g E Rl (f r kvs) H ι Q := by
  unfold onIw at q
  cases h with
  | @dct r a h1 =>
    simp only at q
    cases hs : st.get r with
    | none => rw [hs] at q; exact q.elim
    | some c =>
      rw [hs] at q
      cases c with
      | dci kvs => obtain ⟨l, hH, hr, hz⟩ := R.at h1 hs; exact ⟨r, a, kvs, l, rfl, rfl, h1, hs, hH, hr, hz, q⟩
      | _ => exact q.elim
  | _ => exact q.elim
theorem onInt_ok {α β : Type} {Rl : Hp → List Addr → α → β → Prop} {d : D} {f : Int → R α} {Q : β → Hp → Prop} {v : V} (h : RV g.K H ι d v) (q : tR g E Rl (onInt d f) H ι Q) : ∃ i, d = .int i ∧ v = .int i ∧ tR g E Rl (f i) H ι Q := by
  unfold onInt at q
  cases h with
  | int i => exact ⟨i, rfl, rfl, q⟩
  | _ => exact q.elim
/-- a locked dict of tuples -/
theorem onF_ok {α β : Type} {Rl : Hp → List Addr → α → β → Prop} {d : D} {f : Nat → List (D × D) → R α} {Q : β → Hp → Prop} {v : V} (I : Inv X pins σ H s) (A : At X g W) (R : RS g.K g.T H ι st) (h : RV g.K H ι d v) (q : tR g E Rl (onF d st f) H ι Q) :
    ∃ r a kvs xs, d = .dct r ∧ v = .ref a ∧ ι[r]? = some a ∧ (a == sysModules) = false ∧ DX g.K H ι kvs xs ∧ s.heap.DictOfH (nestedKind X.prog X.w) a xs ∧ kvs.length ≤ 100000 ∧ plKs kvs = true ∧ tR g E Rl (f r kvs) H ι Q := by
  unfold onF at q
  cases h with
  | @dct r a h1 =>
    simp only at q
    cases hs : st.get r with
    | none => rw [hs] at q; exact q.elim
    | some c =>
      rw [hs] at q
      cases c with
      | fdc kvs =>
        obtain ⟨hp, q⟩ := tR.ite q
        obtain ⟨l, o, ho, rl, hz⟩ := R.at h1 hs
        rw [← A.w] at ho
        obtain ⟨⟨xs, pr, o, es, ep, h1', h2, h3, h4, h5⟩, hs'⟩ := (I.hok a _ ho).2.1
        have dx := DX.of rl pr
        exact ⟨r, a, kvs, xs, rfl, rfl, h1, hs', dx, ⟨o, es, ep, h1', h2, h3, h4, DX.is (K := g.K) A.K I dx, h5⟩, hz, hp, q⟩
      | _ => exact q.elim
  | _ => exact q.elim
def ixI (x y : D) (s : S) : R D := onI x s fun _ kvs => onInt y fun k => match ifind k kvs with
  | some d => .ok d s
  | none => .no
def ixF (x y : D) (s : S) : R D := onF x s fun _ kvs => onK y (match dfind y kvs with
  | some d => .ok d s
  | none => .no)
def dIxB (x y : D) (s : S) : R D := match kindD s x with
  | some true => ixI x y s
  | some false => ixF x y s
  | none => dIxA x y s
theorem un1 (A : At X g W) : X.A.units + 1 < cLine := by have := A.un; omega
theorem ix_b (A : At X g W) : IxR X (ro g dIxB) := by
  intro value slice pins s σ H x y v u Q I rx ry ⟨E, ι, dx, dy, st, R, qx, qy, q⟩ hs0
  unfold dIxB at q
  cases hk : kindD st dx with
  | none => rw [hk] at q; exact ix_any A value slice pins s σ H x y v u Q I rx ry ⟨E, ι, dx, dy, st, R, qx, qy, q⟩ hs0
  | some b =>
    rw [hk] at q
    cases b with
    | true =>
      obtain ⟨r, a, kvs, l, e0, rfl, ha, hr, hl, hz, q⟩ := onI_ok R qx (show tRe g E (ixI dx dy st) H ι Q from q)
      obtain ⟨i, rfl, rfl, q⟩ := onInt_ok qy q
      cases rx
      obtain ⟨f1, f2⟩ := ifind_ok i hl
      cases hf : ifind i kvs with
      | none => rw [hf] at q; exact q.elim
      | some y0 =>
        rw [hf] at q
        obtain ⟨w, ew, rw'⟩ := f2 y0 hf
        have dg : DGet H a (.int i) (some w) := .inl ⟨l, .inl i, hr, rfl, ew.symm⟩
        exact tail_any (dict_typeIs I dg) slot_dict_getitem.lookup (d_getItem (un1 A) I dg ry fun w' s' I' rl => ⟨w, H, I', rl, tR.of q R rw'⟩) hs0
    | false =>
      obtain ⟨r, a, kvs, xs, e0, rfl, ha, hs, dx', hm, hz, hp, q⟩ := onF_ok I A R qx (show tRe g E (ixF dx dy st) H ι Q from q)
      obtain ⟨b, k, rfl, hx, hk, q⟩ := onK_ok qy q
      cases rx
      cases ry
      obtain ⟨f1, f2⟩ := dfind_ok hx hk hp dx'
      cases hf : dfind dy kvs with
      | none => rw [hf] at q; exact q.elim
      | some y0 =>
        rw [hf] at q
        obtain ⟨p, w, ep, rw', rl⟩ := f2 y0 hf
        exact tail_any hm.typeIs slot_dict_getitem.lookup (wpAny_getItem_heap (room8 A) (key_is I A qy hk) hm ep ⟨w, H, I.tok _, rl, tR.of q R rw'⟩) hs0
theorem e_ixB (A : At X g W) {a b : PySem.Expr} {ma mb : ME} {pos : Pos} (ha : PE X a (te g W ma)) (hb : PE X b (te g W mb)) (hs : PlainIx b) : PE X (.Subscript a b pos) (te g W (mOp dIxB ma mb)) :=
  PE.imp (pe_ix (ix_b A) ha hb hs) fun σ H Q ⟨ι, e, s, R, q, h⟩ => ⟨ι, e, s, R, q, tR.bind h fun d s1 v H1 ι1 _ f1 R1 r1 h1 => ⟨ι1, e, s1, R1, q.fw f1, tR.bind h1 fun d2 s2 v2 H2 ι2 _ f2 R2 r2 h2 => ⟨_, ι2, d, d2, s2, R2, r1.fw f2, r2, h2⟩⟩⟩
def inI (n : Bool) (x y : D) (s : S) : R D := onI y s fun _ kvs => onInt x fun k => .ok (.bl (if n then !(ifind k kvs).isSome else (ifind k kvs).isSome)) s
def inFz (n : Bool) (x y : D) (s : S) : R D := onF y s fun _ kvs => onK x (.ok (.bl (if n then !(dfind x kvs).isSome else (dfind x kvs).isSome)) s)
def inB (n : Bool) (x y : D) (s : S) : R D := match kindD s y with
  | some true => inI n x y s
  | some false => inFz n x y s
  | none => inA n x y s
theorem in_b (A : At X g W) (n : Bool) : OpR X (compareOp (if n then .NotIn else .In)) (ro g (inB n)) := by
  intro pins s σ H x y v u Q I rx ry ⟨E, ι, dx, dy, st, R, qx, qy, q⟩
  unfold inB at q
  cases hk : kindD st dy with
  | none => rw [hk] at q; exact in_any A n pins s σ H x y v u Q I rx ry ⟨E, ι, dx, dy, st, R, qx, qy, q⟩
  | some b =>
    rw [hk] at q
    cases b with
    | true =>
      obtain ⟨r, a, kvs, l, e0, rfl, ha, hr, hl, hz, q⟩ := onI_ok R qy (show tRe g E (inI n dx dy st) H ι Q from q)
      obtain ⟨i, rfl, rfl, q⟩ := onInt_ok qx q
      cases ry
      have dg : DGet H a (.int i) (valV l (.inl i)) := .inl ⟨l, .inl i, hr, rfl, rfl⟩
      have e := ifind_some i hl
      cases n with
      | false => exact d_in (un1 A) I dg rx fun s' I' => ⟨.bl _, H, I', rfl, by rw [e]; exact tR.of q R (.bl _)⟩
      | true => exact d_notIn (un1 A) I dg rx fun s' I' => ⟨.bl _, H, I', rfl, by rw [e]; exact tR.of q R (.bl _)⟩
    | false =>
      obtain ⟨r, a, kvs, xs, e0, rfl, ha, hs, dx', hm, hz, hp, q⟩ := onF_ok I A R qy (show tRe g E (inFz n dx dy st) H ι Q from q)
      obtain ⟨b, k, rfl, hx, hk, q⟩ := onK_ok qx q
      cases rx
      cases ry
      obtain ⟨f1, f2⟩ := dfind_ok hx hk hp dx'
      have e : (atKey xs k).isSome = (dfind dx kvs).isSome := by
        cases hf : dfind dx kvs with
        | none => rw [f1 hf]; rfl
        | some y0 => obtain ⟨p, _, ep, _⟩ := f2 y0 hf; rw [ep]; rfl
      cases n with
      | false => exact wpAny_in_heap (room8 A) (key_is I A qx hk) hs hm ⟨.bl _, H, I.tok _, rfl, by rw [e]; exact tR.of q R (.bl _)⟩
      | true =>
        show wpAny (model X.prog X.w) X.A (do return Value.bool (!(← contains (.ref a) (.ref b)))) (EP X pins σ Q) X.xe s
        exact wpAny_bind (wpAny_contains_heap (room8 A) (key_is I A qx hk) hs hm (wpAny_pure ⟨.bl _, H, I.tok _, rfl, by rw [e]; exact tR.of q R (.bl _)⟩))
theorem o_inB (A : At X g W) : OpR X (compareOp .In) (ro g (inB false)) := in_b A false
theorem o_notinB (A : At X g W) : OpR X (compareOp .NotIn) (ro g (inB true)) := in_b A true
def stI (x y d : D) (s : S) : R Unit := onIw x s fun r kvs => onInt y fun k => if kvs.length < 99999 then .ok () (s.put r (.dci (iput kvs k d))) else .no
def stB (x y d : D) (s : S) : R Unit := match kindD s x with
  | none => stA x y d s
  | _ => stI x y d s
def rstB (g : Cfg) : TSet := fun x y v H Q => ∃ E ι dx dy d s, RS g.K g.T H ι s ∧ RV g.K H ι dx x ∧ RV g.K H ι dy y ∧ RV g.K H ι d v ∧ tR g E (fun _ _ _ _ => True) (stB dx dy d s) H ι (fun (_ : Unit) H' => Q H')
theorem set_b (A : At X g W) : PSet X (rstB g) := by
  intro pins s σ H o i v ov iv u Q I ro ri rv ⟨E, ι, dx, dy, d, st, R, rx, ry, rd, h⟩
  unfold stB at h
  cases hk : kindD st dx with
  | none => rw [hk] at h; exact set_any A pins s σ H o i v ov iv u Q I ro ri rv ⟨E, ι, dx, dy, d, st, R, rx, ry, rd, h⟩
  | some b =>
    rw [hk] at h
    obtain ⟨r, a, kvs, l, e0, rfl, ha, hc, hH, hl, hz, q⟩ := onIw_ok R rx (show tR g E _ (stI dx dy d st) H ι _ from h)
    obtain ⟨k, rfl, rfl, q⟩ := onInt_ok ry q
    obtain ⟨hl2, q⟩ := tR.ite q
    cases ro
    have hll : kvs.length = l.length := Paired.length hl
    have dp : DPut H a (.int k) v (upd H a (.dK (putK l (.inl k) v))) := .inl ⟨l, .inl k, hH, rfl, by rw [sizeLine_eq]; omega, rfl⟩
    have f := Fw.put (o := .dK (putK l (.inl k) v)) R hc rfl ha
    have len := iput_len kvs k d
    refine d_setItem (un1 A) I dp ri rv fun s' I' => ⟨_, I', q () _ ι f (R.write hc rfl ha ⟨_, upd_same, (iput_ok rd hl).imp fun r => r.fw f, by omega⟩) trivial⟩
def gSubB (o i : ME) : MG := fun F e d s => (o F e s).bind fun x s1 => (i F e s1).bind fun y s2 => (stB x y d s2).bind fun _ s3 => .ok e s3
theorem g_subB (A : At X g W) {o i : PySem.Expr} {pos : Pos} {ma mb : ME} {ws : List Nat} (ho : PE X o (te g W ma)) (hi : PE X i (te g W mb))
    (ha : ∀ v, assign (.Subscript o i pos) X.env v = (do let ov ← holding [v] (eval o X.env); let iv ← holding [v, ov] (eval i X.env); standAt pos; holding [v, ov, iv] (setItem ov iv v); release [v, ov, iv] []) := by intro _; rfl) : PG X (.Subscript o i pos) (gs g ws (gSubB ma mb)) :=
  PG.imp (pg_sub ho hi (set_b A) ha) fun v σ H Q ⟨ι, e, s, d, R, q, r, h⟩ => ⟨ι, e, s, R, q, tR.e0 (tR.bind h fun d1 s1 v1 H1 ι1 _ f1 R1 r1 h1 => ⟨ι1, e, s1, R1, q.fw f1, tR.e0 (tR.bind h1 fun d2 s2 v2 H2 ι2 _ f2 R2 r2 h2 =>
    ⟨E0, ι2, d1, d2, d, s2, R2, r1.fw f2, r2, (r.fw f1).fw f2, tR.bind h2 fun _ s3 _ H3 ι3 _ f3 R3 _ h3 => h3 σ H3 ι3 Fw.refl R3 ⟨((q.fw f1).fw f2).fw f3, rfl⟩⟩)⟩)⟩
end
end EV
namespace EV
open L2 PySem PySem.Spec PyProof.Rows EVC
def isDt (s : S) : D → Bool
  | .dct r => match s.get r with
    | some (.dct _) => true
    | some (.fdc _) => true
    | some (.dci _) => true
    | some (.fdi _) => true
    | _ => false
  | _ => false
def getI (x y z : D) (s : S) : R D := onI x s fun _ kvs => onInt y fun k => match ifind k kvs with
  | some d => .ok d s
  | none => .ok z s
def getF (x y z : D) (s : S) : R D := onF x s fun _ kvs => onK y (match dfind y kvs with
  | some d => .ok d s
  | none => .ok z s)
def getN (x y z : D) (s : S) : R D := onD x s fun _ kvs => onK y (match dfind y kvs with
  | some d => .ok d s
  | none => .ok z s)
def getB (x y z : D) (s : S) : R D := match kindD s x with
  | some true => getI x y z s
  | some false => getF x y z s
  | none => getN x y z s
def mGet2 (o e f : ME) : ME := fun F en s => (o F en s).bind fun x s1 => if isDt s1 x = true then (e F en s1).bind fun y s2 => (f F en s2).bind fun z s3 => getB x y z s3 else .no
section
variable {X : Cx} {g : Cfg} {W : WX} {E : XK} {pins : List (Addr × Obj)} {s : Shared} {σ : L2.St} {H : Hp} {ι : List Addr} {st : S}
theorem isDt_at (I : Inv X pins σ H s) (A : At X g W) (R : RS g.K g.T H ι st) {d : D} {v : V} (h : RV g.K H ι d v) (q : isDt st d = true) :
    ∃ a, v = .ref a ∧ s.TypeIs (.ref a) "dict" ∧ ∀ b, Value.ref a = .ref b → ∃ ob, s.heap.get? b = some ob ∧ ob.dict = none := by
  unfold isDt at q
  have raw : ∀ {a : Addr} {o : Obj} {l : List DEnt}, s.heap.get? a = some o ∨ True → DAt X.w a l s.heap → s.TypeIs (.ref a) "dict" ∧ ∀ b, Value.ref a = .ref b → ∃ ob, s.heap.get? b = some ob ∧ ob.dict = none := by
    intro a o l _ ⟨xs, pr, o', es, ep, h1, h2, h3, h4, h5⟩
    have hm : s.heap.DictRaw a es ep := ⟨o', h1, h2, h3⟩
    exact ⟨hm.typeIs, fun b eb => by cases eb; exact ⟨o', h1, h2.2.1⟩⟩
  cases h with
  | @dct r a h1 =>
    simp only at q
    cases hs : st.get r with
    | none => rw [hs] at q; cases q
    | some c =>
      rw [hs] at q
      refine ⟨a, rfl, ?_⟩
      cases c with
      | dct kvs =>
        obtain ⟨l, ho, rl, hz⟩ := R.at h1 hs
        rw [← A.w] at ho
        exact raw (o := default) (.inr trivial) (I.hok a _ ho).1.1
      | fdc kvs =>
        obtain ⟨l, o, ho, rl, hz⟩ := R.at h1 hs
        rw [← A.w] at ho
        exact raw (o := default) (.inr trivial) (I.hok a _ ho).2.1.1
      | dci kvs =>
        obtain ⟨l, ho, rl, hz⟩ := R.at h1 hs
        obtain ⟨t1, t2, _⟩ := isD_at I (.inl ⟨l, .inl ho⟩)
        exact ⟨t1, t2⟩
      | fdi kvs =>
        obtain ⟨l, o, ho, rl, hz⟩ := R.at h1 hs
        obtain ⟨t1, t2, _⟩ := isD_at I (.inl ⟨l, .inr ⟨o, ho⟩⟩)
        exact ⟨t1, t2⟩
      | _ => cases q
  | _ => cases q
/-- a dict lies behind it -/
def DtAt (g : Cfg) (x : V) (H : Hp) : Prop := ∃ ι st d, RS g.K g.T H ι st ∧ RV g.K H ι d x ∧ isDt st d = true
def rg3 (g : Cfg) (f : D → D → D → S → R D) (x y z : V) (H : Hp) (Q : VK) : Prop := ∃ E ι dx dy dz s, RS g.K g.T H ι s ∧ RV g.K H ι dx x ∧ RV g.K H ι dy y ∧ RV g.K H ι dz z ∧ tRe g E (f dx dy dz s) H ι Q
def tG2 (g : Cfg) (td ty tx : TE) : TE := fun σ H Q => td σ H fun x H1 => DtAt g x H1 ∧ ty σ H1 fun y H2 => tx σ H2 fun z H3 => rg3 g getB x y z H3 Q
theorem get_run (I : Inv X pins σ H s) (A : At X g W) {x y z : V} {ax : Addr} {u r : Value} {Q : VK} (ex : x = .ref ax) (ry : RelV y u) (rz : RelV z r) (q : rg3 g getB x y z H Q) :
    wpAny (model X.prog X.w) X.A (call (.builtin "dict.get") [.ref ax, u, r]) (EP X pins σ Q) X.xe s := by
  subst ex
  obtain ⟨E, ι, dx, dy, dz, st, R, qx, qy, qz, q⟩ := q
  unfold getB at q
  cases hk : kindD st dx with
  | none =>
    rw [hk] at q
    obtain ⟨r0, a, kvs, e0, ea, ha, hc, hp, q⟩ := onD_ok qx (show tRe g E (getN dx dy dz st) H ι Q from q)
    cases ea
    obtain ⟨b, k, rfl, hx, hk, q⟩ := onK_ok qy q
    cases (show u = Value.ref b from ry)
    obtain ⟨l, xs, ho, hs, dx', hm, hz, hl⟩ := dct_at I A R ha hc
    obtain ⟨f1, f2⟩ := dfind_ok hx hk hp dx'
    refine call_meetsIn PySem.F.slot_dict_get hm.typeIs PySem.F.entry_dict_get (PySem.F.args_dict_get_3 _ _ _) (meetsH_dict_get_default (nestedKind X.prog X.w) ax b hs r) ⟨room8 A, k, xs, key_is I A qy hk, hm, ?_⟩
    cases hf : dfind dy kvs with
    | none => rw [hf] at q; rw [f1 hf]; exact ⟨z, H, I.tok _, rz, tR.of q R qz⟩
    | some y0 =>
      rw [hf] at q
      obtain ⟨p, w, ep, rw', rl⟩ := f2 y0 hf
      rw [ep]
      exact ⟨w, H, I.tok _, rl, tR.of q R rw'⟩
  | some bb =>
    rw [hk] at q
    cases bb with
    | true =>
      obtain ⟨r0, a, kvs, l, e0, ea, ha, hr, hl, hz, q⟩ := onI_ok R qx (show tRe g E (getI dx dy dz st) H ι Q from q)
      cases ea
      obtain ⟨i, rfl, rfl, q⟩ := onInt_ok qy q
      obtain ⟨f1, f2⟩ := ifind_ok i hl
      have dg : DGet H ax (.int i) (valV l (.inl i)) := .inl ⟨l, .inl i, hr, rfl, rfl⟩
      refine d_get2 (un1 A) I dg ry rz fun w' s' I' rl => ?_
      cases hf : ifind i kvs with
      | none => rw [hf] at q; rw [f1 hf] at rl; exact ⟨z, H, I', rl, tR.of q R qz⟩
      | some y0 =>
        rw [hf] at q
        obtain ⟨w, ew, rw'⟩ := f2 y0 hf
        rw [ew] at rl
        exact ⟨w, H, I', rl, tR.of q R rw'⟩
    | false =>
      obtain ⟨r0, a, kvs, xs, e0, ea, ha, hs, dx', hm, hz, hp, q⟩ := onF_ok I A R qx (show tRe g E (getF dx dy dz st) H ι Q from q)
      cases ea
      obtain ⟨b, k, rfl, hx, hk, q⟩ := onK_ok qy q
      cases (show u = Value.ref b from ry)
      obtain ⟨f1, f2⟩ := dfind_ok hx hk hp dx'
      refine call_meetsIn PySem.F.slot_dict_get hm.typeIs PySem.F.entry_dict_get (PySem.F.args_dict_get_3 _ _ _) (meetsH_dict_get_default (nestedKind X.prog X.w) ax b hs r) ⟨room8 A, k, xs, key_is I A qy hk, hm, ?_⟩
      cases hf : dfind dy kvs with
      | none => rw [hf] at q; rw [f1 hf]; exact ⟨z, H, I.tok _, rz, tR.of q R qz⟩
      | some y0 =>
        rw [hf] at q
        obtain ⟨p, w, ep, rw', rl⟩ := f2 y0 hf
        rw [ep]
        exact ⟨w, H, I.tok _, rl, tR.of q R rw'⟩
theorem pe_g2 (A : At X g W) {o e f : PySem.Expr} {apos cpos : Pos} {td ty tx : TE} (ho : PE X o td) (he : PE X e ty) (hf : PE X f tx) (m : M2 X o "get" apos e f cpos) : PE X (.Call (.Attribute o "get" apos) [e, f] [] cpos) (tG2 g td ty tx) := by
  refine ⟨fun pins s σ H Q I h => ?_⟩
  refine wpAny_Call_method m.base m.few m.line PySem.F.plainAttrs_dict PySem.F.slot_dict_get PySem.F.type_dict_get (thn (ho.run pins s σ H _ I h) fun u s1 ⟨x, H1, I1, rx, ⟨ι, st, d, R, rv, hd⟩, q1⟩ => ?_)
  obtain ⟨a, ex, t1, t2⟩ := isDt_at I1 A R rv hd
  subst ex
  obtain rfl : u = Value.ref a := rx
  refine ⟨t1, t2, ?_⟩
  rw [m.trees]
  refine Calls.callWith_builtin rfl (Calls.evalArgs_plain (Calls.spliced_cons (thn (he.run pins s1 σ H1 _ I1 q1) fun iv s2 ⟨y, H2, I2, ry, q2⟩ =>
    Calls.spliced_cons (thn (hf.run pins s2 σ H2 _ I2 q2) fun fv s3 ⟨z, H3, I3, rz, q3⟩ => Calls.spliced_nil ?_))))
  exact get_run I3 A rfl ry rz q3
theorem e_get2 (A : At X g W) {o e f : PySem.Expr} {apos cpos : Pos} {ma mb mc : ME} (ho : PE X o (te g W ma)) (he : PE X e (te g W mb)) (hf : PE X f (te g W mc)) (m : M2 X o "get" apos e f cpos) : PE X (.Call (.Attribute o "get" apos) [e, f] [] cpos) (te g W (mGet2 ma mb mc)) :=
  PE.imp (pe_g2 A ho he hf m) fun σ H Q ⟨ι, e, s, R, q, h⟩ => ⟨ι, e, s, R, q, tR.bind h fun d s1 v H1 ι1 _ f1 R1 r1 h1 => by
    obtain ⟨hd, h1⟩ := tR.ite h1
    exact ⟨⟨ι1, s1, d, R1, r1, hd⟩, ι1, e, s1, R1, q.fw f1, tR.bind h1 fun d2 s2 v2 H2 ι2 _ f2 R2 r2 h2 => ⟨ι2, e, s2, R2, (q.fw f1).fw f2, tR.bind h2 fun d3 s3 v3 H3 ι3 _ f3 R3 r3 h3 =>
      ⟨_, ι3, d, d2, d3, s3, R3, (r1.fw f2).fw f3, r2.fw f3, r3, h3⟩⟩⟩⟩
end
end EV
namespace EV
open L2 PySem PySem.Spec PyProof.Rows EVC
def truB (x : D) (s : S) (f : Bool → R Bool) : R Bool := match kindD s x with
  | some true => onI x s fun _ kvs => f (!kvs.isEmpty)
  | some false => .no
  | none => onTru x s f
def tTruB (a : ME) : MT := fun F e s => (a F e s).bind fun x s1 => truB x s1 fun b => .ok b s1
def rTru (g : Cfg) (v : V) (H : Hp) (Q : Bool → Hp → Prop) : Prop := ∃ E ι d s, RS g.K g.T H ι s ∧ RV g.K H ι d v ∧ tRt g E (truB d s fun b => .ok b s) H ι Q
def actD (kx vx : PySem.Expr) (acc : Value) (env : Env) : Sem Unit := do
  let kv ← eval kx env
  let vv ← holding [kv] (eval vx env)
  match acc with
  | .ref d => do
    standAt { kx.pos with endLine := vx.pos.endLine, endCol := vx.pos.endCol }
    holding [kv, vv] (dictSet d kv vv)
  | _ => unsupported "internal:dictcomp"
section
variable {X : Cx} {g : Cfg} {W : WX} {E : XK} {pins : List (Addr × Obj)} {s : Shared} {σ : L2.St} {H : Hp} {ι : List Addr} {st : S}
theorem IRel.isEmpty {K : PySem.W.Frag} {kvs : List (Int × D)} {l : List (Key × V)} (h : IRel K H ι kvs l) : kvs.isEmpty = l.isEmpty := by
  cases h <;> rfl
theorem tru_b (A : At X g W) : TruR X (rTru g) := by
  intro pins s σ H x v Q I rx ⟨E, ι, d, st, R, rv, q⟩
  unfold truB at q
  cases hk : kindD st d with
  | none =>
    rw [hk] at q
    obtain ⟨k, h2, h3⟩ := onTru_ok R rv (show tRt g E (onTru d st fun b => .ok b st) H ι Q from q)
    exact tru_ok pins s σ H x v Q I rx ⟨k, by rw [A.K]; exact h2, tR.of h3 R rfl⟩
  | some b =>
    rw [hk] at q
    cases b with
    | false => exact q.elim
    | true =>
      obtain ⟨r, a, kvs, l, e0, rfl, ha, hr, hl, hz, q⟩ := onI_ok R rv (show tRt g E (onI d st fun _ kvs => .ok (!kvs.isEmpty) st) H ι Q from q)
      cases rx
      refine d_truth I hr fun s' I' => ⟨H, I', ?_⟩
      rw [← hl.isEmpty]
      exact tR.of q R rfl
theorem pt_truR {a : PySem.Expr} {ta : TE} {r : V → Hp → (Bool → Hp → Prop) → Prop} (ha : PE X a ta) (hr : TruR X r) (he : ∀ whole, isTrue a X.env whole = (do let v ← whole; standAt a.pos; holding [v] (truthy v))) :
    PT X a (fun σ H Q => ta σ H fun x H' => r x H' Q) := by
  refine ⟨fun pins s σ H Q I h => ?_⟩
  exact isTrue_plain (thn (ha.run pins s σ H _ I h) fun v s1 ⟨x, H1, I1, r1, q1⟩ => hr pins s1 σ H1 x v Q I1 r1 q1) (he _)
theorem t_truB (A : At X g W) {a : PySem.Expr} {ma : ME} (ha : PE X a (te g W ma)) (he : ∀ whole, isTrue a X.env whole = (do let v ← whole; standAt a.pos; holding [v] (truthy v))) : PT X a (tt g W (tTruB ma)) :=
  PT.imp (pt_truR ha (tru_b A) he) fun σ H Q ⟨ι, e, s, R, q, h⟩ => ⟨ι, e, s, R, q, tR.bind h fun d s1 v H1 ι1 _ f1 R1 r1 h1 => ⟨_, ι1, d, s1, R1, r1, h1⟩⟩
end
section
variable {X : Cx} {B : List EV.Row} {Z : List (Str × GV)} {g : Cfg} {W : WX} {n : Nat} {N : List Str} {ns : Ns} {y : Str} {p pos py spos : Pos} {kx vx tg iter : PySem.Expr} {ifs : List PySem.Expr} {scope : Scope} {wi : MI} {m : MG} {t : MT} {mk mv : ME}
theorem newD_ok0 {A : Around} {E : Value → Shared → Prop} {Q : Value → Shared → Prop} {s : Shared} {M : Model} (h : Q (.ref s.heap.objs.size) { s with heap := s.heap.push { cls := .type "dict", data := .dict #[] } }) : wpAny M A newDict Q E s := by
  simp only [newDict]
  exact wpAny_newObj_type h (by size_fits)
end
end EV
namespace EV
open L2 PySem PySem.Spec PyProof.Rows EVC
def mNewI : ME := fun _ _ s => .ok (.dct s.n) (s.new (.dci []))
section
variable {X : Cx} {g : Cfg} {W : WX}
theorem e_newI (A : At X g W) {pos : Pos} : PE X (.Dict [] [] pos) (te g W mNewI) :=
  PE.imp pe_dnewK fun σ H Q ⟨ι, e, st, R, q, h⟩ p hp => by
    have f := Fw.newA (K := g.K) (H := H) (ι := ι) (p := p) (o := .dK []) hp
    exact h (.ref p) _ (ι ++ [p]) f (R.alloc hp ⟨[], upd_same, .nil, Nat.zero_le _⟩) (.dct (by rw [← R.len]; simp))
end
end EV
namespace EV
open L2 PySem PySem.Spec PyProof.Rows EVC
end EV
namespace EV
open L2 PySem PySem.Spec PyProof.Rows EVC
end EV
namespace EV
open L2 PySem PySem.Spec PyProof.Rows EVC
section
variable {X : Cx} {B : List EV.Row} {Z : List (Str × GV)} {g : Cfg} {W : WX} {n : Nat} {N : List Str} {ns : Ns}
theorem Ct.swapD (C : Ct X B Z g W n N ns) {kx vx : PySem.Expr} {cs : List PySem.Comprehension} {scope : Scope} {t : Str} {py pos spos : Pos} (hl : lclB ns t = true) (h1 : (py.line == pos.line) = true) (h2 : swpB scope t = true) : swapsWith (.DictComp kx vx cs scope pos) (some (.Name t py)) spos.line X.env = pure true := by
  have k1 : X.env.kindOf t = some .local := C.lcl hl
  have k2 : X.env.blockKind = .function := by unfold Env.blockKind; rw [C.kind]; rfl
  unfold swapsWith
  simp only [pure_bind, k1, k2, PySem.Expr.pos, h1, beq_self_eq_true, Bool.true_and]
  unfold swpB at h2
  rw [h2]
theorem swp_cellD (C : Ct X B Z g W n N ns) {kx vx : PySem.Expr} {cs : List PySem.Comprehension} {scope : Scope} {t : Str} {py pos spos : Pos} (hl : celB ns t = true) : swapsWithSole [.Name t py] (.DictComp kx vx cs scope pos) spos.line X.env = pure false := by
  unfold swapsWithSole swapsWith
  simp only [pure_bind, C.cel hl, Bool.and_false, Bool.false_and]
theorem swp_cellL (C : Ct X B Z g W n N ns) {elt : PySem.Expr} {cs : List PySem.Comprehension} {scope : Scope} {t : Str} {py pos spos : Pos} (hl : celB ns t = true) : swapsWithSole [.Name t py] (.ListComp elt cs scope pos) spos.line X.env = pure false := by
  unfold swapsWithSole swapsWith
  simp only [pure_bind, C.cel hl, Bool.and_false, Bool.false_and]
end
end EV
namespace EV
open L2 PySem PySem.Spec PyProof.Rows EVC EVE
def hR (bs : IsT) (j : Nat) (T : String) (a b : Str) (x : Ex) (e : En) (s : S) : R Fl := match isLk bs x.c T with
  | some k => if j < e.length then .ok (.rt (.str (if k = true then a else b))) s else .no
  | none => .no
end EV
namespace EV
open L2 PySem PySem.Spec PyProof.Rows EVC
def aPutT (mk mv : ME) : MAct := fun F e r s => (mk F e s).bind fun x s1 => (mv F e s1).bind fun y s2 => stD (.dct r) x y s2
section
variable {X : Cx} {g : Cfg} {W : WX}
theorem tU.tR {r : R Unit} {H : Hp} {ι : List Addr} {Nx : Hp → Prop} (h : tU g r H ι Nx) : tR g E0 (fun _ _ (_ _ : Unit) => True) r H ι (fun _ H' => Nx H') := by
  cases r with
  | ok u s => exact h
  | ex x s => exact h.elim
  | no => exact h.elim
theorem act_dictT (A : At X g WN) (hx : X.xe = NoX) {kx vx : PySem.Expr} {mk mv : ME} {D : Addr} (hk : PE X kx (te g WN mk)) (hv : PE X vx (te g WN mv)) : PAct X [] (actD kx vx (.ref D) X.env) (tact g (aPutT mk mv) D) := by
  refine ⟨fun pins s σ H Nx I ⟨ι, e, st, r, R, q, hD, h⟩ => ?_⟩
  unfold actD
  refine wpAny_bind (thn (hk.run pins s σ H (fun y H1 => ∃ ι1 st1 x, RS g.K g.T H1 ι1 st1 ∧ RE g.K H1 ι1 e σ ∧ RV g.K H1 ι1 x y ∧ ι1[r]? = some D ∧ tU g ((mv g.F e st1).bind fun d s2 => stD (.dct r) x d s2) H1 ι1 Nx) I
    ⟨ι, e, st, R, q, tR.e0 (tU.bind h fun x st1 y H1 ι1 f1 R1 r1 h1 => ⟨ι1, st1, x, R1, q.fw f1, r1, f1.at hD, h1⟩)⟩) fun v s1 ⟨y, H1, I1, rv, ι1, st1, x, R1, q1, r1, d1, h1⟩ => ?_)
  refine wpAny_bind (wpAny_holding (thn (hv.run pins s1 σ H1 (fun y2 H2 => ∃ ι2 st2 x2, RS g.K g.T H2 ι2 st2 ∧ RV g.K H2 ι2 x y ∧ RV g.K H2 ι2 x2 y2 ∧ ι2[r]? = some D ∧ tU g (stD (.dct r) x x2 st2) H2 ι2 Nx) I1
    ⟨ι1, e, st1, R1, q1, tR.e0 (tU.bind h1 fun x2 st2 y2 H2 ι2 f2 R2 r2 h2 => ⟨ι2, st2, x2, R2, r1.fw f2, r2, f2.at d1, h2⟩)⟩) fun v2 s2 ⟨y2, H2, I2, rv2, ι2, st2, x2, R2, rx, r2, d2, h2⟩ => ?_))
  obtain ⟨r0, a, kvs, e0, ea, ha, hc, hpl, q3⟩ := onD_ok (RV.dct d2) h2.tR
  cases e0
  cases ea
  obtain ⟨b, kk, rfl, hxk, hkk, q3⟩ := onK_ok rx q3
  cases (show v = Value.ref b from rv)
  obtain ⟨l, xs, k1, k2, k3, k4, _, k5⟩ := put_run I2 A R2 ha hc hpl hxk hkk rx r2 rv2 q3
  have k1' : (nestedKind X.prog X.w).room X.A := by
    have := A.un
    show X.A.units + 8 < cLine
    omega
  exact wpAny_bind (wpAny_standAt (wpAny_holding (wpAny_dictSet_heap (hsz := k4) k1' k2 k3 fun h' hm' sb =>
    let ⟨H', I', nx⟩ := k5 h' _ hm' sb
    ⟨σ, H', I', rfl, fun _ _ _ e => e, nx⟩)))
end
section
variable {X : Cx} {B : List EV.Row} {Z : List (Str × GV)} {g : Cfg} {W : WX} {n : Nat} {N : List Str} {ns : Ns} {y : Str} {p pos py spos : Pos} {kx vx tg iter : PySem.Expr} {ifs : List PySem.Expr} {scope : Scope} {wi : MI} {m : MG} {t : MT} {mk mv : ME}
theorem hob_dctT {s : Shared} {σ : L2.St} {H : Hp} {pins : List (Addr × Obj)} (I : Inv X pins σ H s) : ObjOk X.prog X.w (upd H s.heap.objs.size (DAo X.w s.heap.objs.size [])) (s.heap.push { cls := .type "dict", data := .dict #[] }) s.heap.objs.size (DAo X.w s.heap.objs.size []) := by
  have hs : (s.heap.objs.size == sysModules) = false := beq_eq_false_iff_ne.mpr (Ne.symm (Nat.ne_of_lt I.big))
  have hob : (s.heap.push { cls := .type "dict", data := .dict #[] }).get? s.heap.objs.size = some { cls := .type "dict", data := .dict #[] } := Heap.get?_push_size _ rfl
  exact ⟨⟨⟨[], .nil, _, #[], 0, hob, ⟨rfl, rfl, rfl⟩, rfl, rfl, List.nodup_nil⟩, hs⟩, ⟨_, hob⟩, fun a1 a2 p k => ⟨p.1.stay k, p.2⟩⟩
theorem dctT_ (C : Ct X B Z g W n N ns) (own : List (Str × Nat)) (hb : blkC N (scOf ns) scope own = true) (hi : PI X tg iter (ti g W wi))
    (h : ∀ {Y : Cx}, Ct Y B Z g WN n N scope.names → PG Y tg (gs g (own.map (·.2)) m) ∧ PTs Y ifs (tt g WN t) ∧ PE Y kx (te g WN mk) ∧ PE Y vx (te g WN mv))
    (hs : ∀ x, foldedSetIterable iter X.env x = pure x := by intro _; rfl) :
    PE X (.DictComp kx vx [⟨tg, iter, ifs, 0⟩] scope pos) (te g W (mComp (.dct []) D.dct wi m t (aPutT mk mv) (own.map (·.2)))) :=
  have ok := C.blkOk hb
  e_comp (act := fun acc env => actD kx vx acc env) (o0 := fun D => DAo X.w D []) (vsI := []) C.at_ here_dict rfl (arm_eval_DictComp _ _ _ _ _ _) (fun h => newD_ok0 h) (fun I => hob_dctT I) (fun {H ι D} h => ⟨[], h, .nil, Nat.zero_le _⟩) (fun h => .dct h) (fun _ _ _ => rfl) (fun j z => by cases z)
    (by rw [C.eN]; exact C.nd) hi ok (fun _ _ _ _ _ => (h (C.in_ ok.kind)).1) (fun _ _ _ _ _ => (h (C.in_ ok.kind)).2.1)
    (fun s H c cl fp D => act_dictT (C.in_ (s := s) (H := H) (cl := cl) (c := c) (fp := fp) ok.kind).at_ rfl (h (C.in_ ok.kind)).2.2.1 (h (C.in_ ok.kind)).2.2.2) hs
theorem set_dctT_ (C : Ct X B Z g W n N ns) (i : Nat) (hy : nthB N i y = true) (hl : lclB ns y = true) (hsw : swapsWith (.DictComp kx vx [⟨tg, iter, ifs, 0⟩] scope pos) (some (.Name y py)) spos.line X.env = pure true) (own : List (Str × Nat)) (hb : blkC N (scOf ns) scope own = true) (hi : PI X tg iter (ti g W wi))
    (h : ∀ {Y : Cx}, Ct Y B Z g WN n N scope.names → PG Y tg (gs g (own.map (·.2)) m) ∧ PTs Y ifs (tt g WN t) ∧ PE Y kx (te g WN mk) ∧ PE Y vx (te g WN mv))
    (hs : ∀ x, foldedSetIterable iter X.env x = pure x := by intro _; rfl) :
    PS X (.Assign [.Name y py] (.DictComp kx vx [⟨tg, iter, ifs, 0⟩] scope pos) spos) (ts g W (sAsg (mComp (.dct []) D.dct wi m t (aPutT mk mv) (own.map (·.2))) (gNm i))) :=
  have ok := C.blkOk hb
  s_setComp (act := fun acc env => actD kx vx acc env) (o0 := fun D => DAo X.w D []) (vsI := []) C.at_ here_dict rfl rfl (fun h => newD_ok0 h) (fun I => hob_dctT I) (fun {H ι D} h => ⟨[], h, .nil, Nat.zero_le _⟩) (fun h => .dct h) (fun _ _ _ => rfl) (fun j z => by cases z)
    (by rw [C.eN]; exact C.nd) (C.nth hy) (C.lcl hl) hsw hi ok (fun _ _ _ _ _ => (h (C.in_ ok.kind)).1) (fun _ _ _ _ _ => (h (C.in_ ok.kind)).2.1)
    (fun s H c cl fp D => act_dictT (C.in_ (s := s) (H := H) (cl := cl) (c := c) (fp := fp) ok.kind).at_ rfl (h (C.in_ ok.kind)).2.2.1 (h (C.in_ ok.kind)).2.2.2) hs
end
end EV
namespace EV
open L2 PySem PySem.Spec PyProof.Rows EVC
section
variable {X : Cx} {g : Cfg} {W : WX} {E : XK} {H : Hp} {ι : List Addr}
theorem map_intk (kvs : List (Int × D)) : (kvs.map fun p => (D.int p.1)) = ((kvs.map fun p => ((.int p.1 : D), p.2)).map fun p => p.1) := by rw [List.map_map]; rfl
end
end EV
namespace EV
open L2 PySem PySem.Spec PyProof.Rows EVC
def augI (f : Int → Int → Int) (i : Nat) (e : En) (x : Int) : D → S → R Fl
  | .int y, s => .ok (.nx (e.set i (some (.int (f x y))))) s
  | _, _ => .no
def sAugI (f : Int → Int → Int) (i : Nat) (a : ME) : MS := fun F e s => match e[i]? with
  | some (some (.int x)) => (a F e s).st e (augI f i e x)
  | _ => .no
section
variable {X : Cx} {B : List EV.Row} {Z : List (Str × GV)} {g : Cfg} {W : WX} {n : Nat} {N : List Str} {ns : Ns} {x : Str} {p pos : Pos} {a : PySem.Expr} {ma : ME} {f : Int → Int → Int} {op : PySem.Operator}
theorem s_augI (C : Ct X B Z g W n N ns) (i : Nat) (ho : PIp X op (ipI f)) (h : tgB N ns [i] i x = true) (ha : PE X a (te g W ma)) : PS X (.AugAssign (.Name x p) op a pos) (ts g W (sAugI f i ma)) := by
  unfold tgB at h
  simp only [Bool.and_eq_true] at h
  obtain ⟨⟨h1, h2⟩, h3⟩ := h
  refine PS.imp (ps_aug (by rw [C.eN]; exact C.nd) (C.nth h1) (C.loc h2) ha ho (C.locf h2)) fun D σ H ⟨ι, e, s, R, q, h⟩ => ?_
  unfold sAugI at h
  split at h
  · rename_i k hk
    obtain ⟨v, hv, rv⟩ := q.2 i _ hk
    cases rv
    refine ⟨_, hv, ι, e, s, R, q, tRs.bind h q fun d s1 v H1 ι1 _ f1 R1 r1 h1 => ?_⟩
    unfold augI at h1
    split at h1
    · cases r1
      exact ⟨_, _, rfl, rfl, h1 _ H1 ι1 Fw.refl R1 ((q.fw f1).set (.int _) i)⟩
    · exact h1.elim
  · exact h.elim
end
end EV
namespace EV
open L2 PySem PySem.Spec PyProof.Rows EVC
section
variable {X : Cx} {g : Cfg} {W : WX} {E : XK} {H : Hp} {ι : List Addr}
theorem map_intv (kvs : List (Int × D)) : (kvs.map fun p => p.2) = ((kvs.map fun p => ((.int p.1 : D), p.2)).map fun p => p.2) := by rw [List.map_map]; rfl
end
end EV
namespace EV
open L2 PySem PySem.Spec PyProof.Rows EVC
section
variable {X : Cx} {g : Cfg} {W : WX}
def strictP : List KD → Bool
  | [] => true
  | a :: r => (r.all fun b => !(leKD b a)) && strictP r
def srtN (s : S) (l : List D) : Option (List D) := match keyedL s l with
  | some ps => if (okSort ps && strictP (EVS.isrt leKD ps)) = true then some ((EVS.isrt leKD ps).map (·.1)) else none
  | none => none
def srtNL (l : List D) (s : S) : R D := match srtN s l with
  | some out => newL out s
  | none => .no
theorem perm_strict : ∀ {l m : List KD}, l.Perm m → l.Pairwise (fun a b => leKD a b = true) → strictP m = true → l = m
  | [], m, p, _, _ => (p.symm.eq_nil).symm
  | a :: l, [], p, _, _ => absurd p.eq_nil (by simp)
  | a :: l, b :: m, p, hl, hm => by
    obtain ⟨l1, l2⟩ := List.pairwise_cons.mp hl
    unfold strictP at hm
    rw [Bool.and_eq_true, List.all_eq_true] at hm
    have e : a = b := by
      rcases List.mem_cons.mp (p.mem_iff.mp (List.mem_cons_self (a := a) (l := l))) with e | ha
      · exact e
      · rcases List.mem_cons.mp (p.mem_iff.mpr (List.mem_cons_self (a := b) (l := m))) with e | hb
        · exact e.symm
        · have z1 := hm.1 a ha
          rw [l1 b hb] at z1
          cases z1
    subst e
    rw [perm_strict ((List.perm_cons a).mp p) l2 hm.2]
theorem keyedL_spec {s : S} : ∀ {l : List D} {ps : List KD}, keyedL s l = some ps → ps = l.map (fun d => (d, (toPy s 16 d).getD .none)) ∧ ∀ p ∈ ps, toPy s 16 p.1 = some p.2
  | [], ps, e => by cases e; exact ⟨rfl, by simp⟩
  | d :: l, ps, e => by
    unfold keyedL at e
    rw [List.map_cons] at e
    cases hd : toPy s 16 d with
    | none => simp only [hd] at e; cases e
    | some p =>
      simp only [hd] at e
      unfold allO at e
      split at e
      · rename_i ps' h'
        cases e
        obtain ⟨h1, h2⟩ := keyedL_spec (l := l) (ps := ps') h'
        refine ⟨by rw [List.map_cons, hd, ← h1]; rfl, fun q hq => ?_⟩
        rcases List.mem_cons.mp hq with rfl | hq
        · exact hd
        · exact h2 q hq
      · cases e
theorem okSort_spec {ps : List KD} (ok : okSort ps = true) : PySem.W.AllAlike (ps.map (·.2)) ∧ EVS.Sort1 (ps.map (·.2)) := by
  unfold okSort at ok
  rw [Bool.and_eq_true, Bool.or_eq_true] at ok
  obtain ⟨o1, o2⟩ := ok
  refine ⟨fun d hd d' hd' => ?_, ?_⟩
  · obtain ⟨p, hp, rfl⟩ := List.mem_map.mp hd
    obtain ⟨q, hq, rfl⟩ := List.mem_map.mp hd'
    exact fits_alike _ _ _ (List.all_eq_true.mp o1 p hp) (List.all_eq_true.mp o1 q hq)
  · rcases o2 with o2 | o2
    · left
      intro d hd
      obtain ⟨p, hp, rfl⟩ := List.mem_map.mp hd
      have := List.all_eq_true.mp o2 p hp
      cases e : p.2 with
      | tuple xs => exact ⟨xs, rfl⟩
      | _ => rw [e] at this; cases this
    · right
      intro d hd
      obtain ⟨p, hp, rfl⟩ := List.mem_map.mp hd
      have := List.all_eq_true.mp o2 p hp
      exact ⟨(fun e => by rw [e] at this; cases this), (fun xs e => by rw [e] at this; cases this)⟩
theorem perm_lift {α β : Type} (f : α → β) : ∀ {us : List β} {L : List α}, us.Perm (L.map f) → ∃ M : List α, M.Perm L ∧ us = M.map f
  | [], L, p => by
    have : L = [] := by have := p.symm.eq_nil; simpa using this
    exact ⟨[], by rw [this], rfl⟩
  | u :: us, L, p => by
    obtain ⟨q0, hq, e⟩ := List.mem_map.mp (p.mem_iff.mp (List.mem_cons_self (a := u) (l := us)))
    obtain ⟨l1, l2, rfl⟩ := List.append_of_mem hq
    have p1 : (l1 ++ q0 :: l2).Perm (q0 :: (l1 ++ l2)) := List.perm_middle
    have p2 := p.trans (p1.map f)
    rw [List.map_cons, e] at p2
    obtain ⟨M, m1, m2⟩ := perm_lift f ((List.perm_cons _).mp p2)
    exact ⟨q0 :: M, (m1.cons q0).trans p1.symm, by rw [List.map_cons, ← m2, e]⟩
theorem c_srtSN (A : At X g W) : CallR X (.builtin "sorted") (fun vs H Q => ∃ E ι st r a l, vs = [.ref a] ∧ RS g.K g.T H ι st ∧ ι[r]? = some a ∧ st.get r = some (.sn l) ∧ tRe g E (srtNL l st) H ι Q) := by
  intro pins s σ H vs us Q I r ⟨E, ι, st, j, a, l, ev, R, ha, hc, q⟩
  subst ev
  obtain ⟨u, rfl, ru⟩ := vals1 r
  cases ru
  have hu := A.un
  obtain ⟨M, L, e1, hM, hl, pm, ho⟩ := R.at ha hc
  rw [← A.w] at ho
  obtain ⟨es, n, t, S0⟩ := (I.hok a _ ho).1
  obtain ⟨o, h1, h2, h3⟩ := S0.obj
  unfold srtNL srtN at q
  cases hk : keyedL st l with
  | none => rw [hk] at q; exact q.elim
  | some ps =>
    rw [hk] at q
    simp only at q
    by_cases ok : (okSort ps && strictP (EVS.isrt leKD ps)) = true
    · rw [if_pos ok] at q
      rw [Bool.and_eq_true] at ok
      obtain ⟨o1, o2⟩ := okSort_spec ok.1
      obtain ⟨eps, tps⟩ := keyedL_spec hk
      rw [← e1, List.map_map] at eps
      have hLl : L.length = l.length := by rw [← pm.length_eq, List.length_map, ← e1, List.length_map]
      refine EVS.sorted_gen (enc := fun p : KD => p.2) (R := fun v (b : KD) => ∃ x, RelV x v ∧ RV g.K H ι b.1 x)
        (P := fun us ps' => (∃ xs, Vals xs us ∧ RVs g.K H ι (ps'.map (·.1)) xs) ∧ ps'.Perm ps)
        (fun A' E2 Q2 hh2 h2' => EVS.gath_set ⟨o, h1, h2.1, h3⟩ S0.fit (by have := NS.ent_size S0.ent; have := S0.few; unfold scanBound; omega) S0.tab.ris S0.led A' E2 Q2 hh2 fun s' us k g' o' pm2 => h2' s' us k g' o' ?_) (I.ok.hd A.calm) (fun us ps' ⟨⟨xs, rv, hr⟩, pp⟩ => ?_) fun s' D us ps' out c ⟨⟨xs, rv, hr⟩, pp⟩ k hg ho' hn' hD eo => ?_
      · have hes : es.toList.map (·.2) = L.map fun p => Value.ref p.2 := by rw [S0.ent, List.map_map]; rfl
        rw [hes] at pm2
        have pm3 := pm2.trans ((pm.map fun p : NestedKey × Addr => Value.ref p.2).symm)
        rw [List.map_map] at pm3
        obtain ⟨M', m1, m2⟩ := perm_lift _ pm3
        refine ⟨M'.map ((fun d => (d, (toPy st 16 d).getD .none)) ∘ fun m => m.1), ⟨M'.map fun m => V.ref m.2.2, ?_, ?_⟩, ?_⟩
        · rw [m2]
          clear m1 m2
          induction M' with
          | nil => exact .nil
          | cons m M' ih => exact .cons rfl ih
        · rw [List.map_map]
          have sub : ∀ m ∈ M', RV g.K H ι m.1 (.ref m.2.2) := fun m hm => (hM m (m1.mem_iff.mp hm)).2
          clear m1 m2
          induction M' with
          | nil => exact .nil
          | cons m M' ih => exact .cons (sub m (List.mem_cons_self ..)) (ih fun q hq => sub q (List.mem_cons_of_mem _ hq))
        · rw [eps]
          exact m1.map _
      · have el := rvs_each rv hr
        refine ⟨el, rvs_reads I A R rv hr (fun p hp => tps p (pp.mem_iff.mp hp)), fun d hd d' hd' => o1 d ((pp.map _).mem_iff.mp hd) d' ((pp.map _).mem_iff.mp hd'), ?_, ?_, fun p hp => ?_⟩
        · rcases o2 with o2 | o2
          · exact .inl fun d hd => o2 d ((pp.map _).mem_iff.mp hd)
          · exact .inr fun d hd => o2 d ((pp.map _).mem_iff.mp hd)
        · rw [pp.length_eq, eps, List.length_map, sizeLine_eq]
          have : M.length = l.length := by rw [← e1, List.length_map]
          omega
        · have := (toPy_shape 16 _ _ (tps p (pp.mem_iff.mp hp))).2
          show X.A.units + 2 + p.2.depth < cLine
          omega
      · have eq : ps'.mergeSort (PySem.W.dataLe false fun p : KD => p.2) = EVS.isrt leKD ps :=
          perm_strict (((List.mergeSort_perm ps' leKD).trans pp).trans (by rw [← EVS.mergeSort_isrt (le := leKD) leKD_trans leKD_total ps]; exact (List.mergeSort_perm ps leKD).symm)) (List.pairwise_mergeSort leKD_trans leKD_total ps') ok.2
        have hlen := eo.length
        rw [eq] at eo
        obtain ⟨ys, k1, k2⟩ := each_rvs eo
        have hl2 : out.length ≤ sizeLine := by
          rw [hlen, List.length_mergeSort, pp.length_eq, eps, List.length_map, sizeLine_eq]
          have : M.length = l.length := by rw [← e1, List.length_map]
          omega
        obtain ⟨hD0, J⟩ := laid_new I k hg ho' hn' hD k1 hl2
        exact ⟨.ref D, _, J, rfl, newL_ok R k2 q D hD0⟩
    · rw [if_neg ok] at q
      exact q.elim
def bSrtB : List D → S → R D
  | [.set r], s => match s.get r with
    | some (.sn l) => srtNL l s
    | c => srtC s c
  | ds, s => bSrtA ds s
theorem c_srtB (A : At X g W) : CallR X (.builtin "sorted") (rc g bSrtB) := by
  intro pins s σ H xs us Q I r ⟨E, ι, ds, st, R, rv, q⟩
  unfold bSrtB at q
  split at q
  · cases rv with
    | cons r1 r2 =>
      cases r2
      cases r1 with
      | set h1 =>
        split at q
        · rename_i l hc
          exact c_srtSN A pins s σ H _ us Q I r ⟨E, ι, st, _, _, l, rfl, R, h1, hc, q⟩
        · exact c_srtSet A pins s σ H _ us Q I r ⟨E, ι, st, _, _, rfl, R, h1, q⟩
  · exact c_srtA A pins s σ H xs us Q I r ⟨E, ι, ds, st, R, rv, q⟩
end
end EV
namespace EV
open L2 PySem PySem.Spec PyProof.Rows EVC
end EV
namespace ZM
open L2 PySem PySem.Spec PyProof.Rows
/-- the iterator of a tuple (true), of a list (false) -/
def ItAt : Bool → Heap → Addr → Addr → Nat → Prop
  | true, h, it, l, i => h.IsTupleIter it l i
  | false, h, it, l, i => h.IsListIter it l i
def SqAt : Bool → Heap → Addr → Array Value → Prop
  | true, h, l, xs => h.IsTuple l xs
  | false, h, l, xs => h.IsList l xs
/-- what stands at all places but these stands later too -/
def Kp (cs : List Addr) (h h' : Heap) : Prop := ∀ c o, c ∉ cs → h.get? c = some o → h'.get? c = some o
theorem Kp.of {c : Addr} {cs : List Addr} {h h' : Heap} (sb : Heap.SameBut c h h') (m : c ∈ cs) : Kp cs h h' := fun d o n e => sb.extBut d o (fun z => n (z ▸ m)) e
theorem Kp.then {cs : List Addr} {h h' h'' : Heap} (a : Kp cs h h') (b : Kp cs h' h'') : Kp cs h h'' := fun c o n e => b c o n (a c o n e)
theorem ItAt.mv {k : Bool} {h h' : Heap} {it l : Addr} {i : Nat} {cs : List Addr} (x : ItAt k h it l i) (K : Kp cs h h') (n : it ∉ cs) : ItAt k h' it l i := by
  cases k <;> exact x.at fun o e => K it o n e
theorem SqAt.mv {k : Bool} {h h' : Heap} {l : Addr} {xs : Array Value} {cs : List Addr} (x : SqAt k h l xs) (K : Kp cs h h') (n : l ∉ cs) : SqAt k h' l xs := by
  cases k with
  | true => obtain ⟨o, e, r⟩ := x; exact ⟨o, K l o n e, r⟩
  | false => obtain ⟨o, e, r⟩ := x; exact ⟨o, K l o n e, r⟩
theorem ItAt.obj {k : Bool} {h : Heap} {it l : Addr} {i : Nat} (x : ItAt k h it l i) : ∃ o, h.get? it = some o ∧ ∀ v, o.data ≠ .cell v := by
  cases k with
  | true => obtain ⟨o, e, _, d⟩ := x; exact ⟨o, e, fun v q => by rw [d] at q; cases q⟩
  | false => obtain ⟨o, e, _, d⟩ := x; exact ⟨o, e, fun v q => by rw [d] at q; cases q⟩
section
variable {prog : Program} {w : World} {A : Around} {E : Value → Shared → Prop} {s : Shared}
theorem item {k : Bool} {it l : Addr} {i : Nat} {xs : Array Value} {x : Value} {Q : Value → Shared → Prop} (a : ItAt k s.heap it l i) (b : SqAt k s.heap l xs) (e : xs[i]? = some x)
    (q : ∀ h', ItAt k h' it l (i + 1) → Heap.SameBut it s.heap h' → Q x { s with heap := h' }) : wpAny (model prog w) A (Builtin.SmallTypes.nextOf (.ref it)) Q E s := by
  cases k with
  | true => exact RZ.nextOf_tuple_item a b e q
  | false => exact wpAny_nextOf_list_item a b e q
theorem stop {k : Bool} {it l : Addr} {i : Nat} {xs : Array Value} {Q : Value → Shared → Prop} (hh : A.handled = none) (a : ItAt k s.heap it l i) (b : SqAt k s.heap l xs) (e : xs[i]? = none)
    (q : ∀ h' y, Heap.ExtBut it s.heap h' → (∃ o, h'.get? y = some o ∧ o.cls = .type "StopIteration") → E (.ref y) { s with heap := h' }) : wpAny (model prog w) A (Builtin.SmallTypes.nextOf (.ref it)) Q E s := by
  cases k with
  | true => exact RZ.nextOf_tuple_end hh a b e q
  | false => exact wpAny_nextOf_list_end hh a b e q
variable {k m : Bool} {z TI TO i1 i2 l1 l2 : Addr} {n1 n2 : Nat} {xs ys : Array Value} {x y a b : Value}
/-- the parts of a zip -/
structure Parts (k m : Bool) (h : Heap) (z TI TO i1 i2 l1 l2 : Addr) (f : Value) (n1 n2 : Nat) (a b : Value) : Prop where
  z : IsZip h z TI TO f
  its : IsPair h TI (.ref i1) (.ref i2)
  own : IsPair h TO a b
  one : ItAt k h i1 l1 n1
  two : ItAt m h i2 l2 n2
theorem next_item (D : ZipApart z TI TO i1 i2 l1 l2) (p : Parts k m s.heap z TI TO i1 i2 l1 l2 .none n1 n2 a b) (s1 : SqAt k s.heap l1 xs) (s2 : SqAt m s.heap l2 ys) (hx : xs[n1]? = some x) (hy : ys[n2]? = some y) {Q : Value → Shared → Prop}
    (q : ∀ h', Parts k m h' z TI TO i1 i2 l1 l2 (rawInt s.heap.objs.size) (n1 + 1) (n2 + 1) x y → IsPair h' s.heap.objs.size x y → Kp [z, TO, i1, i2] s.heap h' → Q (.ref s.heap.objs.size) { s with heap := h' }) :
    wpAny (model prog w) A (Builtin.«zip.__next__» ⟨[.ref z], []⟩) (fun r s' => ∃ v, r = .done (.ret v) ∧ Q v s') E s := by
  show wpAny (model prog w) A (field (.ref z) 2 >>= _) _ E s
  refine wpAny_bind (wpAny_field p.z rfl (x := .bool false) rfl ?_)
  show wpAny (model prog w) A (field (.ref z) 3 >>= _) _ E s
  refine wpAny_bind (wpAny_field p.z rfl (x := .ref TI) rfl (wpAny_bind (wpAny_seqItems p.its rfl ?_)))
  refine wpAny_bind (m := Builtin.SmallTypes.ownedTupleIsFree (.ref z)) ?_
  rw [Builtin.SmallTypes.ownedTupleIsFree]
  refine wpAny_bind (wpAny_field p.z rfl (x := .none) rfl (wpAny_pure ?_))
  rw [if_pos rfl]
  refine wpAny_bind (wpAny_rule (wpAny_bind (wpAny_field p.z rfl (x := .ref TO) rfl (wpAny_bind (wpAny_setField_rec p.z (by simp) fun hA zA bA => ?_)))))
  have kA : Kp [z, TO, i1, i2] s.heap hA := Kp.of bA (by simp)
  have nt : TI ∉ [z, TO, i1, i2] := by simp [D.TIz, D.TITO, D.TIi1, D.TIi2]
  have n1' : l1 ∉ [z, TO, i1, i2] := by simp [D.l1z, D.l1TO, D.l1i1, D.l1i2]
  have n2' : l2 ∉ [z, TO, i1, i2] := by simp [D.l2z, D.l2TO, D.l2i1, D.l2i2]
  refine wpAny_bind ?_
  simp only [List.zipIdx_cons, List.zipIdx_nil, List.forIn_cons, List.forIn_nil]
  refine wpAny_bind (wpAny_bind (wpAny_onRaise ?_))
  refine wpAny_bind (m := Builtin.SmallTypes.nextOf (.ref i1)) (item (p.one.mv (Kp.of bA (List.mem_singleton.mpr rfl)) (by simp [D.i1z])) (s1.mv kA n1') hx fun hB oneB bB => wpAny_pure ?_)
  have kB : Kp [z, TO, i1, i2] s.heap hB := kA.then (Kp.of bB (by simp))
  have toB : IsPair hB TO a b := bB.extBut _ _ D.TOi1 (bA.extBut _ _ D.TOz p.own)
  refine wpAny_bind (wpAny_seqItems toB rfl (wpAny_bind (wpAny_updateSeq_pair toB fun hC toC bC => wpAny_bind (wpAny_letGo (wpAny_pure ?_)))))
  have kC : Kp [z, TO, i1, i2] s.heap hC := kB.then (Kp.of bC (by simp))
  replace toC : IsPair hC TO x b := toC
  have twoC : ItAt m hC i2 l2 n2 := ((p.two.mv (Kp.of bA (List.mem_singleton.mpr rfl)) (by simp [D.i2z])).mv (Kp.of bB (List.mem_singleton.mpr rfl)) (by simp [D.i12.symm])).mv (Kp.of bC (List.mem_singleton.mpr rfl)) (by simp [D.TOi2.symm])
  refine wpAny_bind (wpAny_bind (wpAny_onRaise ?_))
  refine wpAny_bind (m := Builtin.SmallTypes.nextOf (.ref i2)) (item twoC (s2.mv kC n2') hy fun hD twoD bD => wpAny_pure ?_)
  have kD : Kp [z, TO, i1, i2] s.heap hD := kC.then (Kp.of bD (by simp))
  have toD : IsPair hD TO x b := bD.extBut _ _ D.TOi2 toC
  refine wpAny_bind (wpAny_seqItems toD rfl (wpAny_bind (wpAny_updateSeq_pair toD fun hF toF bF => wpAny_bind (wpAny_letGo (wpAny_pure (wpAny_pure ?_))))))
  have kF : Kp [z, TO, i1, i2] s.heap hF := kD.then (Kp.of bF (by simp))
  replace toF : IsPair hF TO x y := toF
  refine wpAny_bind (wpAny_seqItems toF rfl (wpAny_bind (wpAny_newTuple ?_)))
  have sz : hF.objs.size = s.heap.objs.size := by rw [bF.1, bD.1, bC.1, bB.1, bA.1]
  have zF : IsZip hF z TI TO .ellipsis := bF.extBut _ _ D.TOz.symm (bD.extBut _ _ D.i2z.symm (bC.extBut _ _ D.TOz.symm (bB.extBut _ _ D.i1z.symm zA)))
  have oneF : ItAt k hF i1 l1 (n1 + 1) := ((oneB.mv (Kp.of bC (List.mem_singleton.mpr rfl)) (by simp [D.TOi1.symm])).mv (Kp.of bD (List.mem_singleton.mpr rfl)) (by simp [D.i12])).mv (Kp.of bF (List.mem_singleton.mpr rfl)) (by simp [D.TOi1.symm])
  have twoF : ItAt m hF i2 l2 (n2 + 1) := twoD.mv (Kp.of bF (List.mem_singleton.mpr rfl)) (by simp [D.TOi2.symm])
  have zl : z ≠ hF.objs.size := Nat.ne_of_lt (Heap.lt_size zF)
  refine wpAny_bind (m := Builtin.SmallTypes.ownedTupleHandOut (.ref z) (.ref hF.objs.size)) ?_
  rw [Builtin.SmallTypes.ownedTupleHandOut]
  have zG : IsZip (hF.push { cls := .type "tuple", data := .seq #[x, y] }) z TI TO .ellipsis := Heap.get?_push_of_some _ zF
  refine wpAny_bind (wpAny_setField_rec zG (by simp) fun hI zI bI => wpAny_setField_rec (s := { s with heap := hI }) (show IsZip hI z TI TO (rawInt hF.objs.size) from zI) (by simp) fun hJ zJ bJ => ?_)
  have up : Kp [z] hF hJ := fun c o n e => bJ.extBut c o (fun t => n (by simp [t])) (bI.extBut c o (fun t => n (by simp [t])) (Heap.get?_push_of_some _ e))
  have tJ : IsPair hJ hF.objs.size x y := bJ.extBut _ _ zl.symm (bI.extBut _ _ zl.symm (Heap.get?_push_size _ rfl))
  rw [sz] at tJ zJ
  refine wpAny_pure ⟨_, rfl, ?_⟩
  show Q (.ref hF.objs.size) _
  rw [sz]
  exact q hJ ⟨zJ, up _ _ (by simp [D.TIz]) (kF _ _ nt p.its), up _ _ (by simp [D.TOz]) toF, oneF.mv up (by simp [D.i1z]), twoF.mv up (by simp [D.i2z])⟩ tJ fun c o n e => up c o (fun t => n (by rw [List.mem_singleton.mp t]; simp)) (kF c o n e)
theorem next_stop (hh : A.handled = none) (D : ZipApart z TI TO i1 i2 l1 l2) (p : Parts k m s.heap z TI TO i1 i2 l1 l2 .none n1 n2 a b) (s1 : SqAt k s.heap l1 xs) (s2 : SqAt m s.heap l2 ys) (he : xs[n1]? = none ∨ ys[n2]? = none) {Q : PySem.Fin → Shared → Prop}
    (q : ∀ h' e, Kp [z, TO, i1, i2] s.heap h' → (∃ o, h'.get? e = some o ∧ o.cls = .type "StopIteration") → E (.ref e) { s with heap := h' }) : wpAny (model prog w) A (Builtin.«zip.__next__» ⟨[.ref z], []⟩) Q E s := by
  show wpAny (model prog w) A (field (.ref z) 2 >>= _) _ E s
  refine wpAny_bind (wpAny_field p.z rfl (x := .bool false) rfl ?_)
  show wpAny (model prog w) A (field (.ref z) 3 >>= _) _ E s
  refine wpAny_bind (wpAny_field p.z rfl (x := .ref TI) rfl (wpAny_bind (wpAny_seqItems p.its rfl ?_)))
  refine wpAny_bind (m := Builtin.SmallTypes.ownedTupleIsFree (.ref z)) ?_
  rw [Builtin.SmallTypes.ownedTupleIsFree]
  refine wpAny_bind (wpAny_field p.z rfl (x := .none) rfl (wpAny_pure ?_))
  rw [if_pos rfl]
  refine wpAny_bind (wpAny_rule (wpAny_bind (wpAny_field p.z rfl (x := .ref TO) rfl (wpAny_bind (wpAny_setField_rec p.z (by simp) fun hA zA bA => ?_)))))
  have kA : Kp [z, TO, i1, i2] s.heap hA := Kp.of bA (by simp)
  have n1' : l1 ∉ [z, TO, i1, i2] := by simp [D.l1z, D.l1TO, D.l1i1, D.l1i2]
  have n2' : l2 ∉ [z, TO, i1, i2] := by simp [D.l2z, D.l2TO, D.l2i1, D.l2i2]
  have oneA := p.one.mv (Kp.of bA (List.mem_singleton.mpr rfl)) (by simp [D.i1z])
  have fin : ∀ {h1 : Heap} {e : Addr} {h2 : Heap} {c : Addr}, Kp [z, TO, i1, i2] s.heap h1 → c ∈ [z, TO, i1, i2] → c ≠ z → IsZip h1 z TI TO .ellipsis → Heap.ExtBut c h1 h2 → (∃ o, h2.get? e = some o ∧ o.cls = .type "StopIteration") →
      wpAny (model prog w) A (setField (.ref z) 0 .none) (fun _ s' => E (.ref e) s') E { s with heap := h2 } := fun {h1 e h2 c} K mc cz zz xb st => by
    obtain ⟨o, ho, hc⟩ := st
    have z2 : IsZip h2 z TI TO .ellipsis := xb _ _ (Ne.symm cz) zz
    have ne : e ≠ z := fun t => by
      rw [t, z2] at ho
      cases ho
      simp at hc
    refine wpAny_setField_rec (s := { s with heap := h2 }) z2 (by simp) fun h3 _ b3 => q h3 e (fun d u n x => ?_) ⟨o, b3.extBut _ _ ne ho, hc⟩
    exact b3.extBut _ _ (fun t => n (by simp [t])) (xb _ _ (fun t => n (t ▸ mc)) (K d u n x))
  refine wpAny_bind ?_
  simp only [List.zipIdx_cons, List.zipIdx_nil, List.forIn_cons, List.forIn_nil]
  refine wpAny_bind (wpAny_bind (wpAny_onRaise ?_))
  cases hx : xs[n1]? with
  | none =>
    exact wpAny_bind (m := Builtin.SmallTypes.nextOf (.ref i1)) (stop hh oneA (s1.mv kA n1') hx fun h' e xb st => fin kA (by simp) D.i1z zA xb st)
  | some x =>
    have hy : ys[n2]? = none := he.resolve_left (by rw [hx]; simp)
    refine wpAny_bind (m := Builtin.SmallTypes.nextOf (.ref i1)) (item oneA (s1.mv kA n1') hx fun hB oneB bB => wpAny_pure ?_)
    have kB : Kp [z, TO, i1, i2] s.heap hB := kA.then (Kp.of bB (by simp))
    have toB : IsPair hB TO a b := bB.extBut _ _ D.TOi1 (bA.extBut _ _ D.TOz p.own)
    refine wpAny_bind (wpAny_seqItems toB rfl (wpAny_bind (wpAny_updateSeq_pair toB fun hC toC bC => wpAny_bind (wpAny_letGo (wpAny_pure ?_)))))
    have kC : Kp [z, TO, i1, i2] s.heap hC := kB.then (Kp.of bC (by simp))
    have twoC : ItAt m hC i2 l2 n2 := ((p.two.mv (Kp.of bA (List.mem_singleton.mpr rfl)) (by simp [D.i2z])).mv (Kp.of bB (List.mem_singleton.mpr rfl)) (by simp [D.i12.symm])).mv (Kp.of bC (List.mem_singleton.mpr rfl)) (by simp [D.TOi2.symm])
    have zC : IsZip hC z TI TO .ellipsis := bC.extBut _ _ D.TOz.symm (bB.extBut _ _ D.i1z.symm zA)
    refine wpAny_bind (wpAny_bind (wpAny_onRaise ?_))
    exact wpAny_bind (m := Builtin.SmallTypes.nextOf (.ref i2)) (stop hh twoC (s2.mv kC n2') hy fun h' e xb st => fin kC (by simp) D.i2z zC xb st)
theorem py_item (D : ZipApart z TI TO i1 i2 l1 l2) (p : Parts k m s.heap z TI TO i1 i2 l1 l2 .none n1 n2 a b) (s1 : SqAt k s.heap l1 xs) (s2 : SqAt m s.heap l2 ys) (hx : xs[n1]? = some x) (hy : ys[n2]? = some y) {Q : Option Value → Shared → Prop}
    (q : ∀ h', Parts k m h' z TI TO i1 i2 l1 l2 (rawInt s.heap.objs.size) (n1 + 1) (n2 + 1) x y → IsPair h' s.heap.objs.size x y → Kp [z, TO, i1, i2] s.heap h' → Q (some (.ref s.heap.objs.size)) { s with heap := h' }) : wpAny (model prog w) A (pyNext (.ref z)) Q E s := by
  have T : s.TypeIs (.ref z) "zip" := ⟨_, p.z, rfl⟩
  rw [pyNext]
  exact wpAny_bind (wpAny_attempt (wpAny_callSpecial?_slot (name := Str.ofString "__next__") T F.slot_zip_next (wpAny_call_entry F.slot_zip_next T F.entry_zip_next (next_item D p s1 s2 hx hy fun h' b1 b2 b3 => wpAny_pure (q h' b1 b2 b3)) (F.args_zip_next_1 _))))
theorem py_stop (hh : A.handled = none) (D : ZipApart z TI TO i1 i2 l1 l2) (p : Parts k m s.heap z TI TO i1 i2 l1 l2 .none n1 n2 a b) (s1 : SqAt k s.heap l1 xs) (s2 : SqAt m s.heap l2 ys) (he : xs[n1]? = none ∨ ys[n2]? = none) {Q : Option Value → Shared → Prop}
    (q : ∀ h', Kp [z, TO, i1, i2] s.heap h' → Q none { s with heap := h' }) : wpAny (model prog w) A (pyNext (.ref z)) Q E s := by
  have T : s.TypeIs (.ref z) "zip" := ⟨_, p.z, rfl⟩
  rw [pyNext]
  refine wpAny_bind (wpAny_attempt (wpAny_callSpecial?_slot (name := Str.ofString "__next__") T F.slot_zip_next (wpAny_call_entry F.slot_zip_next T F.entry_zip_next (next_stop (A := A.in1) (show A.in1.handled = none from hh) D p s1 s2 he fun h' e K ⟨o, ho, hc⟩ => ?_) (F.args_zip_next_1 _))))
  exact wpAny_bind (wpAny_isInstance (T := "StopIteration") (b := true) ⟨o, ho, hc⟩ isSubtype_stop (wpAny_pure (q _ K)))
end
abbrev itN : Bool → String
  | true => "tuple_iterator"
  | false => "list_iterator"
abbrev itObj (k : Bool) (l : Addr) : Obj := { cls := .type (itN k), data := .fields #[.ref l, .int 0 0] }
abbrev mk1 (k : Bool) (h : Heap) (l : Addr) : Heap := h.push (itObj k l)
abbrev mk3 (k m : Bool) (h : Heap) (l l' : Addr) : Heap := ((mk1 k h l).push (itObj m l')).push { cls := .type "tuple", data := .seq #[.ref h.objs.size, .ref (mk1 k h l).objs.size] }
abbrev mk4 (k m : Bool) (h : Heap) (l l' : Addr) : Heap := (mk3 k m h l l').push { cls := .type "tuple", data := .seq #[.none, .none] }
abbrev mk5 (k m : Bool) (h : Heap) (l l' : Addr) : Heap := (mk4 k m h l l').push { cls := .type "zip", data := .fields #[.none, .bool false, .bool false, .ref ((mk1 k h l).push (itObj m l')).objs.size, .ref (mk3 k m h l l').objs.size] }
theorem meets_new (k m : Bool) (l l' : Addr) (xs ys : Array Value) : Meets (Builtin.«zip.__new__» ⟨[.type "zip", .ref l, .ref l'], []⟩) (fun _ R s => SqAt k s.heap l xs ∧ SqAt m s.heap l' ys ∧ R (.ok (.ret (.ref (mk4 k m s.heap l l').objs.size))) { s with heap := mk5 k m s.heap l l' }) :=
  .of_wp fun prog w A R s h => by
    obtain ⟨hp, g, d, tk, os⟩ := s
    obtain ⟨a, b, h⟩ := h
    have sub := sub_zip
    cases k with
    | false =>
      have pa : Heap.IsList (Shared.heap ⟨hp, g, d, tk, os⟩) l xs := a
      cases m with
      | false =>
        have pb : Heap.IsList (Shared.heap ⟨mk1 false hp l, g, d, tk, os⟩) l' ys := Heap.IsList.push b _
        wp_walk using wpAny_pyIter_list pa, wpAny_pyIter_list pb
        exact ⟨_, rfl, h⟩
      | true =>
        have pb : Heap.IsTuple (Shared.heap ⟨mk1 false hp l, g, d, tk, os⟩) l' ys := Heap.IsTuple.push b _
        wp_walk using wpAny_pyIter_list pa, wpAny_pyIter_tuple pb
        exact ⟨_, rfl, h⟩
    | true =>
      have pa : Heap.IsTuple (Shared.heap ⟨hp, g, d, tk, os⟩) l xs := a
      cases m with
      | false =>
        have pb : Heap.IsList (Shared.heap ⟨mk1 true hp l, g, d, tk, os⟩) l' ys := Heap.IsList.push b _
        wp_walk using wpAny_pyIter_tuple pa, wpAny_pyIter_list pb
        exact ⟨_, rfl, h⟩
      | true =>
        have pb : Heap.IsTuple (Shared.heap ⟨mk1 true hp l, g, d, tk, os⟩) l' ys := Heap.IsTuple.push b _
        wp_walk using wpAny_pyIter_tuple pa, wpAny_pyIter_tuple pb
        exact ⟨_, rfl, h⟩
section
variable {prog : Program} {w : World} {A : Around} {E : Value → Shared → Prop} {s : Shared}
theorem make {k m : Bool} {l l' : Addr} {xs ys : Array Value} {Q : Value → Shared → Prop} (a : SqAt k s.heap l xs) (b : SqAt m s.heap l' ys)
    (q : ∀ h', Parts k m h' (s.heap.objs.size + 4) (s.heap.objs.size + 2) (s.heap.objs.size + 3) s.heap.objs.size (s.heap.objs.size + 1) l l' .none 0 0 .none .none → (∀ c o, s.heap.get? c = some o → h'.get? c = some o) → Q (.ref (s.heap.objs.size + 4)) { s with heap := h' }) :
    wpAny (model prog w) A (call (.type "zip") [.ref l, .ref l']) Q E s := by
  refine callType_new F.called_zip (by decide) (F.typeCall_zip_2 _ _) (F.newCall_zip_2 _ _) (fun obj => F.args_object_init_3 obj _ _) F.entry_zip_new (meets_new k m l l' xs ys) ⟨a, b, ?_⟩
  have e1 : (mk1 k s.heap l).objs.size = s.heap.objs.size + 1 := Heap.size_push ..
  have e2 : ((mk1 k s.heap l).push (itObj m l')).objs.size = s.heap.objs.size + 2 := (Heap.size_push ..).trans (congrArg (· + 1) e1)
  have e3 : (mk3 k m s.heap l l').objs.size = s.heap.objs.size + 3 := (Heap.size_push ..).trans (congrArg (· + 1) e2)
  have e4 : (mk4 k m s.heap l l').objs.size = s.heap.objs.size + 4 := (Heap.size_push ..).trans (congrArg (· + 1) e3)
  have up4 : ∀ {c o}, (mk4 k m s.heap l l').get? c = some o → (mk5 k m s.heap l l').get? c = some o := fun e => Heap.get?_push_of_some _ e
  have up3 : ∀ {c o}, (mk3 k m s.heap l l').get? c = some o → (mk5 k m s.heap l l').get? c = some o := fun e => up4 (Heap.get?_push_of_some _ e)
  have up2 : ∀ {c o}, ((mk1 k s.heap l).push (itObj m l')).get? c = some o → (mk5 k m s.heap l l').get? c = some o := fun e => up3 (Heap.get?_push_of_some _ e)
  have up1 : ∀ {c o}, (mk1 k s.heap l).get? c = some o → (mk5 k m s.heap l l').get? c = some o := fun e => up2 (Heap.get?_push_of_some _ e)
  have g5 : (mk5 k m s.heap l l').get? (mk4 k m s.heap l l').objs.size = some _ := Heap.get?_push_size _ rfl
  have g4 : (mk5 k m s.heap l l').get? (mk3 k m s.heap l l').objs.size = some _ := up4 (Heap.get?_push_size _ rfl)
  have g3 : (mk5 k m s.heap l l').get? ((mk1 k s.heap l).push (itObj m l')).objs.size = some _ := up3 (Heap.get?_push_size _ rfl)
  have g2 : (mk5 k m s.heap l l').get? (mk1 k s.heap l).objs.size = some _ := up2 (Heap.get?_push_size _ rfl)
  have g1 : (mk5 k m s.heap l l').get? s.heap.objs.size = some _ := up1 (Heap.get?_push_size _ rfl)
  show _ ∧ _
  rw [e4, e3, e2] at g5
  rw [e3] at g4
  rw [e2, e1] at g3
  rw [e1] at g2
  rw [e4]
  exact ⟨⟨_, g5, rfl⟩, q _ ⟨g5, g3, g4, by cases k <;> exact ⟨_, g1, rfl, rfl⟩, by cases m <;> exact ⟨_, g2, rfl, rfl⟩⟩ fun c o e => up1 (Heap.get?_push_of_some _ e)⟩
end
def SqM (k : Bool) (K : PySem.W.Frag) (H : Hp) (a : Addr) (xs : List V) : Prop := match k with
  | true => SqT K H a xs
  | false => SqL K H a xs
/-- pairs of what stands in both -/
def Itm (k m : Bool) (K : PySem.W.Frag) (a b : Addr) : It :=
  ⟨fun i H => ∃ xs ys x y, (SqM k K H a xs ∧ SqM m K H b ys) ∧ xs[i]? = some x ∧ ys[i]? = some y,
    fun i H v H' => ∃ T x y, (v = .ref T ∧ H T = none ∧ H' = upd H T (.tup [x, y])) ∧ (∀ xs, SqM k K H a xs → xs[i]? = some x) ∧ ∀ ys, SqM m K H b ys → ys[i]? = some y,
    fun i H => ∃ xs ys, (SqM k K H a xs ∧ SqM m K H b ys) ∧ (xs[i]? = none ∨ ys[i]? = none)⟩
theorem SqM.at {X : Cx} {pins : List (Addr × Obj)} {s : Shared} {σ : L2.St} {H : Hp} {k : Bool} {a : Addr} {xs : List V} (I : Inv X pins σ H s) (h : SqM k X.K H a xs) : ∃ its : List Value, Vals xs its ∧ SqAt k s.heap a its.toArray ∧ ∀ ys, SqM k X.K H a ys → ys = xs := by
  cases k with
  | true => obtain ⟨its, r, p, _⟩ := I.tuple h; exact ⟨its, r, p, fun ys q => I.tuple_inj q h⟩
  | false => obtain ⟨its, r, p, _⟩ := I.list h; exact ⟨its, r, p.isList, fun ys q => I.list_inj q h⟩
theorem vals_none {xs : List V} {us : List Value} (r : Vals xs us) {i : Nat} (e : xs[i]? = none) : us.toArray[i]? = none := by
  have := r.length
  rw [List.getElem?_eq_none_iff] at e
  simp
  omega
theorem turn {P : Program} {w : World} {K : PySem.W.Frag} {elts : List Expr} {kk : Nat} {tpos : Pos} {k m : Bool} {a b z TI TO i1 i2 : Addr} (D : ZipApart z TI TO i1 i2 a b) :
    Turn P w K (.Tuple elts kk tpos) (Itm k m K a b) [z, TI, TO, i1, i2] z (fun i h => ∃ x y, Parts k m h z TI TO i1 i2 a b .none i i x y) where
  mem := List.mem_cons_self ..
  obj := fun i h ⟨x, y, p⟩ c hc => by
    simp only [List.mem_cons, List.not_mem_nil, or_false] at hc
    rcases hc with rfl | rfl | rfl | rfl | rfl
    · exact ⟨_, p.z, (fun v q => nomatch q)⟩
    · exact ⟨_, p.its, (fun v q => nomatch q)⟩
    · exact ⟨_, p.own, (fun v q => nomatch q)⟩
    · exact p.one.obj
    · exact p.two.obj
  keep := fun i h h' ⟨x, y, p⟩ f => by
    have kp : ∀ c ∈ [z, TI, TO, i1, i2], ∀ o, h.get? c = some o → h'.get? c = some o := f
    refine ⟨x, y, kp z (by simp) _ p.z, kp TI (by simp) _ p.its, kp TO (by simp) _ p.own, ?_, ?_⟩
    · have := p.one
      cases k <;> exact this.at fun o e => kp i1 (by simp) o e
    · have := p.two
      cases m <;> exact this.at fun o e => kp i2 (by simp) o e
  item := by
    intro X hP hw hK hc i pins s σ H E I hf ⟨x0, y0, p⟩ hg
    subst hP hw hK
    obtain ⟨xs, ys, x, y, ⟨q1, q2⟩, hx, hy⟩ := hg
    obtain ⟨us, r1, s1, u1⟩ := q1.at I
    obtain ⟨vs, r2, s2, u2⟩ := q2.at I
    obtain ⟨u, hu, ru⟩ := r1.get hx
    obtain ⟨v, hv, rv⟩ := r2.get hy
    have zl : z < s.heap.objs.size := Heap.lt_size p.z
    refine py_item D p s1 s2 (x := u) (y := v) (by simpa using hu) (by simpa using hv) fun h1 p1 hT kp => ?_
    refine ⟨_, rfl, wpAny_letOwnedTupleGo_zip (s := { s with heap := h1 }) p1.z fun h2 z2 sb => ?_⟩
    have up : Kp [z] h1 h2 := Kp.of sb (List.mem_singleton.mpr rfl)
    have all : ∀ c o, c ∉ [z, TI, TO, i1, i2] → s.heap.get? c = some o → h2.get? c = some o := fun c o n e => up c o (fun t => n (by simp [List.mem_singleton.mp t])) (kp c o (fun t => n (by simp at t ⊢; rcases t with t | t | t | t <;> simp [t])) e)
    have T2 : h2.get? s.heap.objs.size = some { cls := .type "tuple", data := .seq #[u, v] } := up _ _ (fun t => absurd (List.mem_singleton.mp t) (Nat.ne_of_gt zl)) hT
    have I1 : Inv X pins σ (upd H s.heap.objs.size (.tup [x, y])) { s with heap := h2 } :=
      I.turnedNew (t' := s.toks) (ch := [z, TI, TO, i1, i2]) (fun c o hb e => all c o hb e) hf (Nat.le_refl _) ⟨by show 2 ≤ sizeLine; decide, [u, v], .cons ru (.cons rv .nil), ⟨_, T2, rfl, _, rfl⟩⟩
    refine ⟨.ref s.heap.objs.size, _, I1, rfl, ⟨_, x, y, ⟨rfl, I.hok.fresh (Nat.le_refl _), rfl⟩, (fun l hl => by rw [u1 l hl]; exact hx), (fun l hl => by rw [u2 l hl]; exact hy)⟩, ⟨u, v, z2, up _ _ (by simp [D.TIz]) p1.its, up _ _ (by simp [D.TOz]) p1.own, p1.one.mv up (by simp [D.i1z]), p1.two.mv up (by simp [D.i2z])⟩, fun c hcm => ?_⟩
    have hlt : c < s.heap.objs.size := by
      have ob : ∃ o, s.heap.get? c = some o := by
        simp only [List.mem_cons, List.not_mem_nil, or_false] at hcm
        rcases hcm with rfl | rfl | rfl | rfl | rfl
        · exact ⟨_, p.z⟩
        · exact ⟨_, p.its⟩
        · exact ⟨_, p.own⟩
        · obtain ⟨o, e, _⟩ := p.one.obj; exact ⟨o, e⟩
        · obtain ⟨o, e, _⟩ := p.two.obj; exact ⟨o, e⟩
      obtain ⟨o, e⟩ := ob
      exact Heap.lt_size e
    rw [upd_ne (Nat.ne_of_lt hlt)]
    exact (hf c hcm).1
  done := by
    intro X hP hw hK hc i pins s σ H E I hf ⟨x0, y0, p⟩ hg
    subst hP hw hK
    obtain ⟨xs, ys, ⟨q1, q2⟩, he⟩ := hg
    obtain ⟨us, r1, s1, _⟩ := q1.at I
    obtain ⟨vs, r2, s2, _⟩ := q2.at I
    exact py_stop (I.ok.hd hc) D p s1 s2 (he.imp (vals_none r1) (vals_none r2)) fun h' kp => ⟨rfl, I.turnedL (t' := s.toks) (ch := [z, TI, TO, i1, i2]) (fun c o hb e => kp c o (fun t => hb (by simp at t ⊢; rcases t with t | t | t | t <;> simp [t])) e) hf⟩
  self := fun A i s Q E ⟨x, y, p⟩ h => wpAny_pyIter_zip p.z h
def iZipM (K : PySem.W.Frag) (ta : TA) : TI := fun σ H R => ta σ H fun vs H1 => ∃ k m a b xs ys, vs = [.ref a, .ref b] ∧ SqM k K H1 a xs ∧ SqM m K H1 b ys ∧ R (Itm k m K a b) H1
theorem pi_zipM {X : Cx} {e e2 : Expr} {ta : TA} {p pos tpos : Pos} {elts : List Expr} {kk : Nat} (hg : Gl X "zip") (hm : X.mg "zip" = none) (ha : PA X [e, e2] ta) (hs : starEach [e, e2] X.env = (false, eval e X.env) :: starEach [e2] X.env := by rfl) (hpl : (backTo pos (starEach [e2] X.env)).any (·.1) = false := by rfl) :
    PI X (.Tuple elts kk tpos) (.Call (.Name "zip" p) [e, e2] [] pos) (iZipM X.K ta) := by
  refine ⟨fun pins s σ H R I h => Call_ (ld_blt I hg hm PyProof.Rows.boot_zip (PyProof.Rows.callWith_type1 (thn (ha.run pos pins s σ H _ I h) fun us s1 ⟨vs, H1, I1, r1, k, m, a, b, xs, ys, ex, q1, q2, q⟩ => ?_) hs hpl))⟩
  subst ex
  cases r1 with
  | cons ra rr =>
    cases rr with
    | cons rb rr =>
      cases rr
      cases ra
      cases rb
      obtain ⟨us, t1, p1, _⟩ := q1.at I1
      obtain ⟨ws, t2, p2, _⟩ := q2.at I1
      have al : a < s1.heap.objs.size := by cases k <;> (obtain ⟨o, e, _⟩ := p1; exact Heap.lt_size e)
      have bl : b < s1.heap.objs.size := by cases m <;> (obtain ⟨o, e, _⟩ := p2; exact Heap.lt_size e)
      refine make p1 p2 fun h' pt hk => wpAny_pyIter_zip pt.z ?_
      refine ⟨_, [s1.heap.objs.size + 4, s1.heap.objs.size + 2, s1.heap.objs.size + 3, s1.heap.objs.size, s1.heap.objs.size + 1], _, _, H1, rfl, I1.kept (t' := s1.toks) hk, turn (PySem.W.ktu_apart s1.heap.objs.size a b al bl), ⟨_, _, pt⟩, fun c hc => ?_, q⟩
      have le : s1.heap.objs.size ≤ c := by
        simp only [List.mem_cons, List.not_mem_nil, or_false] at hc
        rcases hc with rfl | rfl | rfl | rfl | rfl <;> first | exact Nat.le_refl _ | exact Nat.le_add_right _ _
      exact I1.fpOk le (I1.hok.fresh le)
end ZM
namespace EV
open L2 PySem PySem.Spec PyProof.Rows EVC
def isTupD : D → Bool
  | .tup _ => true
  | _ => false
def zipA : List D → S → R Src
  | [x, y], s => if ((seqD s x).isSome && (seqD s y).isSome) = true then .ok (.zipM x y) s else .no
  | _, _ => .no
section
variable {g : Cfg} {H : Hp} {ι : List Addr}
theorem seqM {K : PySem.W.Frag} {T : Tw} {st : S} {x : D} {v : V} {l : List D} (R : RS K T H ι st) (h : RV K H ι x v) (e : seqD st x = some l) : ∃ a xs, v = .ref a ∧ ZM.SqM (isTupD x) K H a xs ∧ RVs K H ι l xs := by
  cases h with
  | @tup a l' xs h1 h2 => cases e; exact ⟨a, xs, rfl, h1, h2⟩
  | @lst r a h1 =>
    obtain ⟨xs, k1, k2⟩ := R.seq h1 e
    exact ⟨a, xs, rfl, k1, k2⟩
  | _ => cases e
theorem src_zipM {x y : D} {a b : Addr} (h1 : RV g.K H ι x (.ref a)) (h2 : RV g.K H ι y (.ref b)) : SrcOk g H ι (.zipM x y) (ZM.Itm (isTupD x) (isTupD y) g.K a b) := by
  intro H1 ι1 s f R i
  have h1 := h1.fw f
  have h2 := h2.fw f
  cases e1 : seqD s x with
  | none => exact ⟨fun e => by simp [Src.at, e1] at e, fun d e => by simp [Src.at, e1] at e⟩
  | some l =>
    cases e2 : seqD s y with
    | none => exact ⟨fun e => by simp [Src.at, e1, e2] at e, fun d e => by simp [Src.at, e1, e2] at e⟩
    | some m =>
      obtain ⟨a', xs, z1, k1, k2⟩ := seqM R h1 e1
      obtain ⟨b', ys, z2, k3, k4⟩ := seqM R h2 e2
      cases z1
      cases z2
      have hl := k2.length
      have hm := k4.length
      have ea : (Src.zipM x y).at s i = some (pairO l[i]? m[i]?) := by simp [Src.at, e1, e2]
      rw [ea]
      refine ⟨fun e => ⟨xs, ys, ⟨k1, k3⟩, ?_⟩, fun d e => ?_⟩
      · rcases pairO_none (α := Unit) (Option.some.inj e) with e' | e'
        · exact .inl (List.getElem?_eq_none_iff.mpr (by have := List.getElem?_eq_none_iff.mp e'; omega))
        · exact .inr (List.getElem?_eq_none_iff.mpr (by have := List.getElem?_eq_none_iff.mp e'; omega))
      · obtain ⟨u, v, eu, ev, rfl⟩ := pairO_some (Option.some.inj e)
        obtain ⟨p, hp, rp⟩ := k2.get eu
        obtain ⟨q, hq, rq⟩ := k4.get ev
        refine ⟨⟨xs, ys, p, q, ⟨k1, k3⟩, hp, hq⟩, fun x0 H' yl => ?_⟩
        obtain ⟨T, x1, x2, ⟨y1, y2, y3⟩, y4, y5⟩ := yl
        have z := y4 xs k1
        have z' := y5 ys k3
        rw [hp] at z
        rw [hq] at z'
        cases z
        cases z'
        exact pair_ok R rp rq y1 y2 y3
end
section
variable {X : Cx} {g : Cfg} {W : WX} {a b : PySem.Expr} {mr : MA} {p pos : Pos}
theorem i_zipA (A : At X g W) {elts : List PySem.Expr} {kk : Nat} {tpos : Pos} (hg : Gl X "zip") (hm : X.mg "zip" = none) (ha : PA X [a, b] (ta g W mr)) (hs : starEach [a, b] X.env = (false, eval a X.env) :: starEach [b] X.env) (hpl : (backTo pos (starEach [b] X.env)).any (·.1) = false) :
    PI X (.Tuple elts kk tpos) (.Call (.Name "zip" p) [a, b] [] pos) (ti g W (iArgs zipA mr)) :=
  PI.imp (ZM.pi_zipM hg hm ha hs hpl) fun σ H Q ⟨ι, e, s, R, q, h⟩ => ⟨ι, e, s, R, q, tR.bind h fun ds s1 vs H1 ι1 he f1 R1 r1 h1 => by
    clear he
    rw [A.K]
    unfold zipA at h1
    split at h1
    · rename_i x y
      cases r1 with
      | cons r1 r2 =>
        cases r2 with
        | cons r2 r3 =>
          cases r3
          obtain ⟨hk, h2⟩ := tR.ite h1
          rw [Bool.and_eq_true] at hk
          obtain ⟨l, el⟩ := Option.isSome_iff_exists.mp hk.1
          obtain ⟨m, em⟩ := Option.isSome_iff_exists.mp hk.2
          obtain ⟨a', xs, z1, k1, _⟩ := seqM R1 r1 el
          obtain ⟨b', ys, z2, k2, _⟩ := seqM R1 r2 em
          subst z1
          subst z2
          exact ⟨_, _, a', b', xs, ys, rfl, k1, k2, h2 _ _ _ Fw.refl R1 (src_zipM r1 r2)⟩
    · exact h1.elim⟩
end
end EV
namespace EV
open L2 PySem PySem.Spec PyProof.Rows EVC
def mBoxS (k : Int) : MS := (sSeq (sAsg (mIf (tBl (mOp dLt (mVar 1) (mCall bLen (mCons (mVar 0) mNil)))) (mOp dIxB (mVar 0) (mVar 1)) (mC (.int 0))) (gNm 2)) (sRet (mLst (mCons (mOp dMulA (mCall bAbs (mCons (mVar 2) mNil)) (mCall bInt (mCons (mOp (intOp fun i j => .bl (decide (i ≥ j))) (mCall bAbs (mCons (mVar 2) mNil)) (mOp (intOpC powOk fun i j => .int (i ^ j.toNat)) (mC (.int 10)) (mC (.int 18)))) mNil))) (mCons (mOp dAdd (mOp dAdd (mOp (intOpC modOk fun i j => .int (i.fmod j)) (mCall bInt (mCons (mVar 2) mNil)) (mC (.int 2305843009213693951))) (mOp dMulA (mC (.int 39373)) (mVar 1))) (mC (.int k))) (mCons (mC (.int 0)) mNil))))))
def mTakeS : MS := (sSeq (sIf (tBl (mOp (intOp fun i j => .bl (decide (i > j))) (mOp dIxB (mVar 0) (mC (.int 0))) (mC (.int 0)))) (sSeq (sAsg (mOp (intOpC modOk fun i j => .int (i.fmod j)) (mCall bInt (mCons (mOp dIxB (mVar 0) (mC (.int 0))) mNil)) (mVar 1)) (gNm 5)) (sSeq (sAsg (mOp (intOpC divOk fun i j => .int (i.fdiv j)) (mOp dIxB (mVar 0) (mC (.int 0))) (mVar 1)) (gSubB (mVar 0) (mC (.int 0)))) (sRet (mVar 5)))) sNil) (sSeq (sAsg (mOp dAdd (mOp dIxB (mVar 0) (mC (.int 2))) (mC (.int 1))) (gSubB (mVar 0) (mC (.int 2)))) (sSeq (sAsg (mOp (intOpC modOk fun i j => .int (i.fmod j)) (mCall bInt (mCons (mOp dMulA (mOp dAdd (mOp dIxB (mVar 0) (mC (.int 1))) (mOp dMulA (mC (.int 48271)) (mOp dIxB (mVar 0) (mC (.int 2))))) (mOp dAdd (mC (.int 39373)) (mOp dIxB (mVar 0) (mC (.int 2))))) mNil)) (mC (.int 2147483647))) (gNm 2)) (sSeq (sAsg (mOp dAdd (mOp (intOpC modOk fun i j => .int (i.fmod j)) (mCall bInt (mCons (mVar 2) mNil)) (mC (.int 40009))) (mC (.int 7))) (gNm 3)) (sSeq (sAsg (mOp (intOpC modOk fun i j => .int (i.fmod j)) (mCall bInt (mCons (mOp dMulA (mOp dAdd (mOp dAdd (mVar 2) (mOp dIxB (mVar 0) (mC (.int 2)))) (mOp (intOpC divOk fun i j => .int (i.fdiv j)) (mOp dIxB (mVar 0) (mC (.int 1))) (mC (.int 1000003)))) (mVar 3)) mNil)) (mC (.int 2147483629))) (gNm 4)) (sRet (mOp (intOpC modOk fun i j => .int (i.fmod j)) (mCall bInt (mCons (mOp (intOpC divOk fun i j => .int (i.fdiv j)) (mOp (intOpC modOk fun i j => .int (i.fmod j)) (mCall bInt (mCons (mOp dAdd (mOp dMulA (mVar 4) (mC (.int 48271))) (mVar 2)) mNil)) (mC (.int 2147483587))) (mC (.int 64))) mNil)) (mVar 1))))))))
def mCellsS : MS := (sSeq (sAsg (mOr (mCall bList (mCons (mSl (mVar 0) oNone (oSome (mVar 1))) mNil)) (mLst (mCons (mC (.int 0)) mNil))) (gNm 2)) (sSeq (sFor (iArgs enumA (mCons (mSl (mVar 0) (oSome (mVar 1)) (oSome (mC (.int 63)))) mNil)) (gTp 2 (gsCons (gNm 3) (gsCons (gNm 4) gsNil))) (sSeq (sAsg (mOp (intOpC modOk fun i j => .int (i.fmod j)) (mCall bInt (mCons (mVar 3) mNil)) (mVar 1)) (gNm 5)) (sAsg (mOp dAdd (mOp dIxB (mVar 2) (mVar 5)) (mOp dMulA (mVar 4) (mOp dAdd (mVar 3) (mC (.int 2))))) (gSubB (mVar 2) (mVar 5))))) (sRet (mVar 2))))
theorem ixB_l {s : S} {r : Nat} {l : List D} {i : Int} {d : D} (hc : s.get r = some (.lst l)) (hi : L2.atI l i = some d) : dIxB (.lst r) (.int i) s = .ok d s := by
  show itO (s.seq r) i s = _
  unfold S.seq
  rw [hc]
  show (match L2.atI l i with | some d => R.ok d s | none => .no) = _
  rw [hi]
theorem stB_l {s : S} {r : Nat} {l : List D} {i : Int} {j : Nat} {d : D} (hc : s.get r = some (.lst l)) (hj : atN l.length (.int i) = some j) : stB (.lst r) (.int i) d s = .ok () (s.put r (.lst (l.set j d))) := by
  have e : stB (.lst r) (.int i) d s = match s.own r with
    | some l => (match atN l.length (.int i) with | some j => R.ok () (s.put r (.lst (l.set j d))) | none => .no)
    | none => .no := rfl
  have e2 : s.own r = some l := by unfold S.own; rw [hc]
  rw [e, e2]
  show (match atN l.length (.int i) with | some j => R.ok () (s.put r (.lst (l.set j d))) | none => .no) = _
  rw [hj]
section
variable {F : FT} {e e' : En} {s s' : S} {a b : ME} {x y z d : D}
theorem w_op {f : D → D → S → R D} (ha : a F e s = .ok x s) (hb : b F e s = .ok y s) (hf : f x y s = .ok z s) : mOp f a b F e s = .ok z s := by
  unfold mOp R.bind
  rw [ha]
  simp only
  rw [hb]
  exact hf
theorem w_call {f : List D → S → R D} (ha : a F e s = .ok x s) (hf : f [x] s = .ok z s) : mCall f (mCons a mNil) F e s = .ok z s := by
  unfold mCall mCons mNil R.bind
  simp only
  rw [ha]
  exact hf
theorem w_var {i : Nat} (h : e[i]? = some (some d)) : mVar i F e s = .ok d s := by
  unfold mVar
  rw [h]
theorem w_mul {i j : Int} (h : j.natAbs < 2 ^ 64) : dMulA (.int i) (.int j) s = .ok (.int (i * j)) s := by
  show (if mulOk i j = true then R.ok (D.int (i * j)) s else .no) = _
  rw [if_pos (by unfold mulOk; rw [decide_eq_true h, Bool.or_true])]
theorem w_mod {i j : Int} (h : j ≠ 0) : intOpC modOk (fun i j => .int (i.fmod j)) (.int i) (.int j) s = .ok (.int (i.fmod j)) s := by
  show (if modOk i j = true then R.ok (D.int (i.fmod j)) s else .no) = _
  exact if_pos (show modOk i j = true from decide_eq_true h)
theorem w_div {i j : Int} (h : j ≠ 0) (h2 : j.natAbs < 2 ^ 64) : intOpC divOk (fun i j => .int (i.fdiv j)) (.int i) (.int j) s = .ok (.int (i.fdiv j)) s := by
  show (if divOk i j = true then R.ok (D.int (i.fdiv j)) s else .no) = _
  have hl : j.natAbs.log2 < 64 := (Nat.log2_lt (by omega)).mpr h2
  exact if_pos (show divOk i j = true from decide_eq_true ⟨h, by omega⟩)
theorem w_asg {m : MG} {s1 : S} (ha : a F e s = .ok x s1) (hm : m F e x s1 = .ok e' s') : sAsg a m F e s = .ok (.nx e') s' := by
  unfold sAsg R.st
  rw [ha]
  simp only
  rw [hm]
  rfl
theorem w_seq {m n : MS} {r : R Fl} (h : m F e s = .ok (.nx e') s') (h2 : n F e' s' = r) : sSeq m n F e s = r := by
  unfold sSeq seqF
  rw [h]
  exact h2
theorem w_seqR {m n : MS} (h : m F e s = .ok (.rt d) s') : sSeq m n F e s = .ok (.rt d) s' := by
  unfold sSeq seqF
  rw [h]
theorem w_ret (h : a F e s = .ok d s') : sRet a F e s = .ok (.rt d) s' := by
  unfold sRet R.st
  rw [h]
theorem w_if {c : MT} {m n : MS} {k : Bool} (h : c F e s = .ok k s) : sIf c m n F e s = (if k then m F e s else n F e s) := by
  unfold sIf R.st
  rw [h]
theorem w_bl {k : Bool} (h : a F e s = .ok (.bl k) s) : tBl a F e s = .ok k s := by
  unfold tBl R.bind
  rw [h]
  rfl
theorem w_set {r : Nat} {l l' : List D} {i : Int} {j : Nat} {o k : ME} (ho : o F e s = .ok (.lst r) s) (hi : k F e s = .ok (.int i) s) (hc : s.get r = some (.lst l)) (hj : atN l.length (.int i) = some j) (hl : l.set j d = l') : gSubB o k F e d s = .ok e (s.put r (.lst l')) := by
  unfold gSubB R.bind
  rw [ho]
  simp only
  rw [hi]
  simp only
  rw [stB_l hc hj, hl]
theorem w_lst3 {c : ME} (ha : a F e s = .ok x s) (hb : b F e s = .ok y s) (hc : c F e s = .ok z s) : mLst (mCons a (mCons b (mCons c mNil))) F e s = .ok (.lst s.n) (s.new (.lst [x, y, z])) := by
  unfold mLst mCons mNil R.bind
  rw [ha]
  simp only
  rw [hb]
  simp only
  rw [hc]
  rfl
end
theorem fmod_abs {i j : Int} (h : 0 < j) : (i.fmod j).natAbs < j.natAbs := by
  have h1 := Int.fmod_nonneg_of_pos i h
  have h2 := Int.fmod_lt_of_pos i h
  omega
theorem S.put_put {s : S} {r : Nat} {c c' : Cell} : (s.put r c).put r c' = s.put r c' := by
  unfold S.put
  simp
/-- the draws are below their bounds -/
theorem take_lt {b : Int × Int × Int} {z : Int} (h : 0 < z) : 0 ≤ (takeF b z).1 ∧ (takeF b z).1 < z := by
  unfold takeF
  split
  · exact ⟨Int.fmod_nonneg_of_pos _ h, Int.fmod_lt_of_pos _ h⟩
  · exact ⟨Int.fmod_nonneg_of_pos _ h, Int.fmod_lt_of_pos _ h⟩
theorem take_std {F : FT} {s : S} {r : Nat} {b0 b1 b2 z : Int} (hn : s.n = s.cs.length) (hc : s.get r = some (.lst [.int b0, .int b1, .int b2])) (h1 : b1.natAbs < 2 ^ 62) (h2 : b2.natAbs < 2 ^ 20) (hz : z ≠ 0) (hz2 : z.natAbs < 2 ^ 20) :
    mTakeS F [some (.lst r), some (.int z), none, none, none, none] s = .ok (.rt (.int (takeF (b0, b1, b2) z).1)) (s.put r (.lst [.int (takeF (b0, b1, b2) z).2.1, .int (takeF (b0, b1, b2) z).2.2.1, .int (takeF (b0, b1, b2) z).2.2.2])) := by
  have hr := S.get_lt hc
  have hz3 : z.natAbs < 2 ^ 64 := by omega
  have ix0 : ∀ {e : En}, e[0]? = some (some (.lst r)) → mOp dIxB (mVar 0) (mC (.int 0)) F e s = .ok (.int b0) s := fun he => w_op (w_var he) rfl (ixB_l hc rfl)
  unfold mTakeS
  by_cases hp : b0 > 0
  · have e1 : takeF (b0, b1, b2) z = (b0.fmod z, (b0.fdiv z, b1, b2)) := by
      unfold takeF
      rw [if_pos hp]
    rw [e1]
    refine w_seqR ?_
    rw [w_if (k := true) (w_bl (w_op (ix0 rfl) rfl (show R.ok (D.bl (decide (b0 > 0))) s = _ by rw [decide_eq_true hp])))]
    rw [if_pos rfl]
    refine w_seq (w_asg (w_op (w_call (ix0 rfl) rfl) (w_var rfl) (w_mod hz)) rfl) ?_
    refine w_seq (w_asg (w_op (ix0 rfl) (w_var rfl) (w_div hz hz3)) (w_set (w_var rfl) rfl hc rfl rfl)) ?_
    exact w_ret (w_var rfl)
  · obtain ⟨on, hon⟩ : ∃ x, x = ((b1 + 48271 * (b2 + 1)) * (39373 + (b2 + 1))).fmod 2147483647 := ⟨_, rfl⟩
    obtain ⟨fr, hfr⟩ : ∃ x, x = on.fmod 40009 + 7 := ⟨_, rfl⟩
    obtain ⟨tw, htw⟩ : ∃ x, x = ((on + (b2 + 1) + b1.fdiv 1000003) * fr).fmod 2147483629 := ⟨_, rfl⟩
    have e1 : takeF (b0, b1, b2) z = ((((tw * 48271 + on).fmod 2147483587).fdiv 64).fmod z, (b0, b1, b2 + 1)) := by
      unfold takeF
      rw [if_neg hp, htw, hfr, hon]
    rw [e1]
    have bon : on.natAbs < 2 ^ 31 := by
      have := fmod_abs (i := (b1 + 48271 * (b2 + 1)) * (39373 + (b2 + 1))) (j := 2147483647) (by decide)
      rw [← hon] at this
      omega
    have bfr : fr.natAbs < 2 ^ 17 := by
      have := fmod_abs (i := on) (j := 40009) (by decide)
      omega
    have btw : tw.natAbs < 2 ^ 31 := by
      have := fmod_abs (i := (on + (b2 + 1) + b1.fdiv 1000003) * fr) (j := 2147483629) (by decide)
      rw [← htw] at this
      omega
    refine w_seq (w_if (k := false) (w_bl (w_op (ix0 rfl) rfl (show R.ok (D.bl (decide (b0 > 0))) s = _ by rw [decide_eq_false hp])))) ?_
    have hc2 : (s.put r (.lst [.int b0, .int b1, .int (b2 + 1)])).get r = some (.lst [.int b0, .int b1, .int (b2 + 1)]) := by rw [S.get_put hn hr, if_pos rfl]
    refine w_seq (w_asg (w_op (w_op (w_var rfl) rfl (ixB_l hc rfl)) rfl rfl) (w_set (j := 2) (l' := [.int b0, .int b1, .int (b2 + 1)]) (w_var rfl) rfl hc rfl rfl)) ?_
    show _ = R.ok _ (s.put r (.lst [.int b0, .int b1, .int (b2 + 1)]))
    generalize s.put r (.lst [.int b0, .int b1, .int (b2 + 1)]) = s1 at hc2 ⊢
    have j1 : ∀ {e : En}, e[0]? = some (some (.lst r)) → mOp dIxB (mVar 0) (mC (.int 1)) F e s1 = .ok (.int b1) s1 := fun he => w_op (w_var he) rfl (ixB_l hc2 rfl)
    have j2 : ∀ {e : En}, e[0]? = some (some (.lst r)) → mOp dIxB (mVar 0) (mC (.int 2)) F e s1 = .ok (.int (b2 + 1)) s1 := fun he => w_op (w_var he) rfl (ixB_l hc2 rfl)
    refine w_seq (w_asg (w_op (w_call (w_op (w_op (j1 rfl) (w_op rfl (j2 rfl) (w_mul (by omega))) rfl) (w_op rfl (j2 rfl) rfl) (w_mul (by omega))) rfl) rfl (w_mod (by decide))) rfl) ?_
    rw [← hon]
    refine w_seq (w_asg (w_op (w_op (w_call (w_var rfl) rfl) rfl (w_mod (by decide))) rfl rfl) rfl) ?_
    rw [← hfr]
    refine w_seq (w_asg (w_op (w_call (w_op (w_op (w_op (w_var rfl) (j2 rfl) rfl) (w_op (j1 rfl) rfl (w_div (by decide) (by decide))) rfl) (w_var rfl) (w_mul (by omega))) rfl) rfl (w_mod (by decide))) rfl) ?_
    rw [← htw]
    exact w_ret (w_op (w_call (w_op (w_op (w_call (w_op (w_op (w_var rfl) rfl (w_mul (by decide))) (w_var rfl) rfl) rfl) rfl (w_mod (by decide))) rfl (w_div (by decide) (by decide))) rfl) (w_var rfl) (w_mod hz))
theorem box_std {F : FT} {s : S} {r : Nat} {c : Int} {k : Nat} (hc : s.get r = some (.lst [.int c])) : mBoxS k F [some (.lst r), some (.int 0), none] s = .ok (.rt (.lst s.n)) (s.new (.lst [.int (boxF k c).1, .int (boxF k c).2.1, .int (boxF k c).2.2])) := by
  have hs : s.seq r = some [.int c] := by unfold S.seq; rw [hc]
  have hl : mCall bLen (mCons (mVar 0) mNil) F [some (.lst r), some (.int 0), none] s = .ok (.int 1) s := w_call (w_var rfl) (by show lenO (s.seq r) s = _; rw [hs]; rfl)
  have hi : mIf (tBl (mOp dLt (mVar 1) (mCall bLen (mCons (mVar 0) mNil)))) (mOp dIxB (mVar 0) (mVar 1)) (mC (.int 0)) F [some (.lst r), some (.int 0), none] s = .ok (.int c) s := by
    have h1 : tBl (mOp dLt (mVar 1) (mCall bLen (mCons (mVar 0) mNil))) F [some (.lst r), some (.int 0), none] s = .ok true s := w_bl (w_op (w_var rfl) hl rfl)
    unfold mIf R.bind
    rw [h1]
    exact w_op (w_var rfl) (w_var rfl) (ixB_l hc rfl)
  have ab : (if c < 0 then -c else c) = (c.natAbs : Int) := by split <;> omega
  refine w_seq (w_asg hi rfl) (w_ret ?_)
  have v2 : mVar 2 F ([some (.lst r), some (.int 0), none].set 2 (some (.int c))) s = .ok (.int c) s := w_var rfl
  have ha : mCall bAbs (mCons (mVar 2) mNil) F ([some (.lst r), some (.int 0), none].set 2 (some (.int c))) s = .ok (.int c.natAbs) s := w_call v2 (by show R.ok (D.int (if c < 0 then -c else c)) s = _; rw [ab])
  have e1 : mOp dMulA (mCall bAbs (mCons (mVar 2) mNil)) (mCall bInt (mCons (mOp (intOp fun i j => .bl (decide (i ≥ j))) (mCall bAbs (mCons (mVar 2) mNil)) (mOp (intOpC powOk fun i j => .int (i ^ j.toNat)) (mC (.int 10)) (mC (.int 18)))) mNil)) F ([some (.lst r), some (.int 0), none].set 2 (some (.int c))) s = .ok (.int (boxF k c).1) s := by
    refine w_op ha (w_call (w_op ha rfl rfl) rfl) ?_
    refine (w_mul ?_).trans ?_
    · split <;> decide
    · unfold boxF
      simp only [decide_eq_true_eq]
      rfl
  have e2 : mOp dAdd (mOp dAdd (mOp (intOpC modOk fun i j => .int (i.fmod j)) (mCall bInt (mCons (mVar 2) mNil)) (mC (.int 2305843009213693951))) (mOp dMulA (mC (.int 39373)) (mVar 1))) (mC (.int k)) F ([some (.lst r), some (.int 0), none].set 2 (some (.int c))) s = .ok (.int (boxF k c).2.1) s := by
    refine w_op (w_op (w_op (w_call v2 rfl) rfl (w_mod (by decide))) (w_op rfl (w_var rfl) (w_mul (by decide))) rfl) rfl rfl
  exact w_lst3 e1 e2 rfl
theorem cut_hd (c : Int) (t : List Int) : cutD ((c :: t).map D.int) none (some 1) = [.int c] := by
  unfold cutD
  rw [HT.sIx_none, show (1 : Int) = ((1 : Nat) : Int) from rfl, HT.sIx_nat]
  have : min 1 ((c :: t).map D.int).length = 1 := by simp
  rw [this]
  rfl
theorem cut_tl (c : Int) (t : List Int) (h : t.length ≤ 62) : cutD ((c :: t).map D.int) (some 1) (some 63) = t.map .int := by
  unfold cutD
  rw [show (1 : Int) = ((1 : Nat) : Int) from rfl, show (63 : Int) = ((63 : Nat) : Int) from rfl, HT.sIx_nat, HT.sIx_nat]
  have e1 : min 1 ((c :: t).map D.int).length = 1 := by simp
  have e2 : min 63 ((c :: t).map D.int).length = t.length + 1 := by simp; omega
  rw [e1, e2]
  show (t.map D.int).take (t.length + 1 - 1) = _
  rw [List.take_of_length_le (by simp)]
def bodyC : MS := (sSeq (sAsg (mOp (intOpC modOk fun i j => .int (i.fmod j)) (mCall bInt (mCons (mVar 3) mNil)) (mVar 1)) (gNm 5)) (sAsg (mOp dAdd (mOp dIxB (mVar 2) (mVar 5)) (mOp dMulA (mVar 4) (mOp dAdd (mVar 3) (mC (.int 2))))) (gSubB (mVar 2) (mVar 5))))
def tgC : MG := gTp 2 (gsCons (gNm 3) (gsCons (gNm 4) gsNil))
theorem body_step {F : FT} {s : S} {k : D} {i : Nat} {a x : Int} {x5 : Option D} (hn : s.n = s.cs.length) (hi : i < 2 ^ 20) (hc : s.get 1 = some (.lst [.int a])) :
    ∃ y5, bodyC F [some k, some (.int 1), some (.lst 1), some (.int i), some (.int x), x5] s = .ok (.nx [some k, some (.int 1), some (.lst 1), some (.int i), some (.int x), y5]) (s.put 1 (.lst [.int (a + x * ((i : Int) + 2))])) := by
  have z : (i : Int).fmod 1 = 0 := by
    have h1 := Int.fmod_nonneg_of_pos (i : Int) (show (0 : Int) < 1 by decide)
    have h2 := Int.fmod_lt_of_pos (i : Int) (show (0 : Int) < 1 by decide)
    omega
  refine ⟨some (.int 0), ?_⟩
  unfold bodyC
  refine w_seq (w_asg (x := .int 0) (w_op (w_call (w_var rfl) rfl) (w_var rfl) ((w_mod (by decide)).trans (by rw [z]))) rfl) ?_
  exact w_asg (w_op (w_op (w_var rfl) (w_var rfl) (ixB_l hc rfl)) (w_op (w_var rfl) (w_op (w_var rfl) rfl rfl) (w_mul (by omega))) rfl) (w_set (j := 0) (w_var rfl) (w_var rfl) hc rfl rfl)
theorem loop_C {F : FT} {k : D} {r : Nat} (hr : r ≠ 1) : ∀ (fuel i : Nat) (s : S) (t : List Int) (T : List D) (a : Int) (x3 x4 x5 : Option D), s.n = s.cs.length → 1 < s.n → s.get r = some (.lst T) → T.drop i = t.map .int → s.get 1 = some (.lst [.int a]) → t.length < fuel → i + t.length < 2 ^ 20 →
    ∃ y3 y4 y5 s', forF (.enL r) tgC bodyC fuel i F [some k, some (.int 1), some (.lst 1), x3, x4, x5] s = .ok (.nx [some k, some (.int 1), some (.lst 1), y3, y4, y5]) s' ∧ s'.get 1 = some (.lst [.int (addF i a t)]) := by
  intro fuel
  induction fuel with
  | zero => intro i s t T a x3 x4 x5 _ _ _ _ _ h; omega
  | succ fuel ih =>
    intro i s t T a x3 x4 x5 hn h1 hr2 hd hc hf hi
    have hs : s.seq r = some T := by unfold S.seq; rw [hr2]
    unfold forF
    cases t with
    | nil =>
      have hT : T[i]? = none := by
        rw [List.getElem?_eq_none_iff]
        have := congrArg List.length hd
        simp at this
        omega
      have ea : (Src.enL r).at s i = some none := by simp [Src.at, atL, hs, hT]
      rw [ea]
      exact ⟨x3, x4, x5, s, rfl, hc⟩
    | cons x t =>
      have hT : T[i]? = some (.int x) := by
        have := congrArg (fun l => l[0]?) hd
        simpa using this
      have ea : (Src.enL r).at s i = some (some (.tup [.int i, .int x])) := by simp [Src.at, atL, hs, hT]
      rw [ea]
      simp only
      have eg : noEx (tgC F [some k, some (.int 1), some (.lst 1), x3, x4, x5] (.tup [.int i, .int x]) s) = .ok [some k, some (.int 1), some (.lst 1), some (.int i), some (.int x), x5] s := rfl
      rw [eg]
      obtain ⟨y5, hb⟩ := body_step (F := F) (k := k) (i := i) (a := a) (x := x) (x5 := x5) hn (by simp at hi; omega) hc
      unfold R.st
      simp only
      rw [hb]
      simp only
      have hn2 : (s.put 1 (.lst [.int (a + x * ((i : Int) + 2))])).n = (s.put 1 (.lst [.int (a + x * ((i : Int) + 2))])).cs.length := by
        show s.n = (s.cs.set _ _).length
        rw [List.length_set]
        exact hn
      exact ih (i + 1) _ t T _ _ _ _ hn2 h1 (by rw [S.get_put hn h1, if_neg hr]; exact hr2) (by
        have := congrArg (List.drop 1) hd
        rw [List.drop_drop] at this
        rw [this]; rfl) (by rw [S.get_put hn h1, if_pos rfl]) (by simp at hf; omega) (by simp at hi; omega)
theorem cells_std {F : FT} (l : List Int) (h : l.length ≤ 63) : ∃ r s', mCellsS F [some (.kls l), some (.int 1), none, none, none, none] ⟨0, []⟩ = .ok (.rt (.lst r)) s' ∧ s'.get r = some (.lst [.int (csum l)]) := by
  cases l with
  | nil => exact ⟨_, _, rfl, rfl⟩
  | cons c t =>
    have h1 : sAsg (mOr (mCall bList (mCons (mSl (mVar 0) oNone (oSome (mVar 1))) mNil)) (mLst (mCons (mC (.int 0)) mNil))) (gNm 2) F [some (.kls (c :: t)), some (.int 1), none, none, none, none] ⟨0, []⟩ = .ok (.nx [some (.kls (c :: t)), some (.int 1), some (.lst 1), none, none, none]) ⟨2, [.lst [.int c], .lst [.int c]]⟩ := by
      have e : mSl (mVar 0) oNone (oSome (mVar 1)) F [some (.kls (c :: t)), some (.int 1), none, none, none, none] ⟨0, []⟩ = .ok (.lst 0) ⟨1, [.lst [.int c]]⟩ := by
        show newL (cutD ((c :: t).map D.int) none (some 1)) ⟨0, []⟩ = _
        rw [cut_hd]
        rfl
      refine w_asg (x := .lst 1) (s1 := ⟨2, [.lst [.int c], .lst [.int c]]⟩) ?_ rfl
      unfold mOr mCall mCons mNil R.bind
      rw [e]
      rfl
    have h2 : mSl (mVar 0) (oSome (mVar 1)) (oSome (mC (.int 63))) F [some (.kls (c :: t)), some (.int 1), some (.lst 1), none, none, none] ⟨2, [.lst [.int c], .lst [.int c]]⟩ = .ok (.lst 2) ⟨3, [.lst (t.map .int), .lst [.int c], .lst [.int c]]⟩ := by
      show newL (cutD ((c :: t).map D.int) (some 1) (some 63)) ⟨2, _⟩ = _
      rw [cut_tl c t (by simpa using h)]
      rfl
    obtain ⟨y3, y4, y5, s', h3, h4⟩ := loop_C (F := F) (k := .kls (c :: t)) (r := 2) (by decide) 100000 0 ⟨3, [.lst (t.map .int), .lst [.int c], .lst [.int c]]⟩ t (t.map .int) c none none none rfl (show 1 < 3 by decide) rfl rfl rfl (by simp at h; omega) (by simp at h; omega)
    refine ⟨1, s', ?_, h4⟩
    unfold mCellsS
    refine w_seq h1 (w_seq (e' := [some (.kls (c :: t)), some (.int 1), some (.lst 1), y3, y4, y5]) (s' := s') ?_ (w_ret (w_var rfl)))
    unfold sFor iArgs mCons mNil R.bind R.st
    rw [h2]
    exact h3
end EV
namespace EV
open L2 PySem PySem.Spec PyProof.Rows EVC
section
variable {K : PySem.W.Frag} {T : Tw} {H H2 : Hp} {ι ι2 : List Addr} {s s2 : S}
/-- the same cell, otherwise said -/
theorem RS.as {r : Nat} {a : Addr} {c c' : Cell} (R : RS K T H ι s) (e : s.get r = some c) (h : ι[r]? = some a) (k : CellOk T.w K H ι c' a) : RS K T H ι (s.put r c') where
  tab := R.tab
  n := by show s.n = (s.cs.set _ _).length; rw [List.length_set]; exact R.n
  len := R.len
  nd := R.nd
  cell := fun q d b e' h' => by
    rw [S.get_put R.n (S.get_lt e)] at e'
    by_cases hq : q = r
    · subst hq
      rw [if_pos rfl] at e'
      cases e'
      rw [h] at h'
      cases h'
      exact k
    · rw [if_neg hq] at e'
      exact R.cell q d b e' h'
/-- none of the cells is spoken of -/
theorem RS.bare (R : RS K T H ι s) : RS K T H [] ⟨0, []⟩ where
  tab := fun t ht => by
    have k := R.tab t ht
    cases t with
    | tab P => exact k
    | xd d fs => exact ⟨k.1, by simp⟩
    | lm P q => exact k
  n := rfl
  len := rfl
  nd := List.nodup_nil
  cell := fun r c a e h => by simp at h
/-- what was done without the cells left them as they were -/
theorem RS.frame (R : RS K T H ι s) (f : Fw K H [] H2 ι2) (R2 : RS K T H2 ι2 s2) : Fw K H ι H2 ι ∧ RS K T H2 ι s := by
  have F : Fw K H ι H2 ι := ⟨f.tup, ⟨[], by simp, by simp⟩, f.dom, fun a o h _ ht => f.oth a o h (by simp) ht, f.frz⟩
  refine ⟨F, fun t ht => ?_, R.n, R.len, R.nd, fun r c a e h => ?_⟩
  · have k := R.tab t ht
    have k2 := R2.tab t ht
    cases t with
    | tab P => exact k2
    | xd d fs => exact ⟨k2.1, k.2⟩
    | lm P q => exact k2
  · have z := R.cell r c a e h
    obtain ⟨o, ho, _, n2, _⟩ := z.some
    exact z.fw F ((f.oth a o ho (by simp) n2).trans ho.symm)
theorem S.put_new {c c' : Cell} (hn : s.n = s.cs.length) : (s.new c).put s.n c' = s.new c' := by
  unfold S.put S.new
  simp only [show s.n + 1 - 1 - s.n = 0 by omega, List.set_cons_zero]
theorem S.put_old {c c' : Cell} {r : Nat} (h : r < s.n) : (s.new c).put r c' = (s.put r c').new c := by
  unfold S.put S.new
  simp only [show s.n + 1 - 1 - r = (s.n - 1 - r) + 1 by omega, List.set_cons_succ]
end
def mCellsC : MS := fun _ e s => match e with
  | [some (.scr k tr), some (.int i), _, _, _, _] => if i = 1 then .ok (.rt (.lst s.n)) (s.new (.crn k tr)) else .no
  | _ => .no
def boxC (k r : Nat) (s : S) : Option Cell → R Fl
  | some (.crn k' tr) => if k' = k ∧ k < 2 ^ 60 ∧ tr.length < 1000 then .ok (.rt (.lst s.n)) ((s.put r (.crn k' tr)).new (.urn tr)) else .no
  | _ => .no
def mBoxC (k : Nat) : MS := fun _ e s => match e with
  | [some (.lst r), some (.int i), _] => if i = 0 then boxC k r s (s.get r) else .no
  | _ => .no
def takeC (z : Int) (r : Nat) (s : S) : Option Cell → R Fl
  | some (.urn ((y, t) :: tr)) => if z = y ∧ 0 < y ∧ y < 2 ^ 20 then .ok (.rt (.int t)) (s.put r (.urn tr)) else .no
  | _ => .no
def mTakeC : MS := fun _ e s => match e with
  | [some (.lst r), some (.int z), _, _, _, _] => takeC z r s (s.get r)
  | _ => .no
theorem RE.pair {K : PySem.W.Frag} {H : Hp} {ι : List Addr} {σ : L2.St} {d d2 : D} {n : Nat} (hl : n + 2 = σ.length) (h0 : ∃ v, σ[0]? = some (some v) ∧ RV K H ι d v) (h1 : ∃ v, σ[1]? = some (some v) ∧ RV K H ι d2 v) : RE K H ι (some d :: some d2 :: List.replicate n none) σ := by
  refine ⟨by simpa using hl, fun i x e => ?_⟩
  match i, e with
  | 0, e => cases e; exact h0
  | 1, e => cases e; exact h1
  | i + 2, e =>
    have e' : (List.replicate n (none : Option D))[i]? = some (some x) := by simpa using e
    rw [List.getElem?_replicate] at e'
    split at e' <;> cases e'
section
variable {X : Cx} {g : Cfg} {W : WX} {b : List PySem.Stmt}
theorem ok_cells (h : PSs X b (ts g W mCellsS)) : PSs X b (ts g W mCellsC) := PSs.imp h fun D σ H ⟨ι, e, s, R, q, h⟩ => by
  unfold mCellsC at h
  split at h
  · rename_i k tr i x2 x3 x4 x5
    obtain ⟨hi, h⟩ := tRs.ite h
    subst hi
    obtain ⟨v, hv, rv⟩ := q.2 0 _ rfl
    obtain ⟨v1, hv1, rv1⟩ := q.2 1 _ rfl
    cases rv with
    | @scr _ _ a l z hl dr =>
      cases rv1
      obtain ⟨r, s', e1, e2⟩ := cells_std (F := g.F) l hl
      refine ⟨[], [some (.kls l), some (.int 1), none, none, none, none], ⟨0, []⟩, R.bare, RE.pair (n := 4) q.1 ⟨_, hv, .kls z⟩ ⟨_, hv1, .int 1⟩, ?_⟩
      rw [e1]
      intro v' H2 ι2 f R2 rv2
      cases rv2 with
      | @lst _ p ha =>
        obtain ⟨F, R3⟩ := R.frame f R2
        obtain ⟨xs, hp, hx⟩ := R2.cell r _ p e2 ha
        have hp0 : H p = none := by
          obtain ⟨L, e, hL⟩ := f.ad
          exact hL p (by rw [List.nil_append] at e; rw [← e]; exact List.mem_of_getElem? ha)
        have hx' : xs = [V.int (csum l)] := by
          cases hx with
          | cons u1 u2 => cases u2; cases u1; rfl
        subst hx'
        have hn : p ∉ ι := R.notin hp0
        obtain ⟨F4, R4, rv4⟩ := R3.adopt F hp0 hp hn (l := [.int (csum l)]) (.cons (.int _) .nil)
        have at4 : (ι ++ [p])[s.n]? = some p := by rw [← R.len]; simp
        have R5 := R4.as (c := .lst [.int (csum l)]) (by rw [S.get_new R3.n, if_pos rfl]) at4 (c' := .crn k tr) ⟨csum l, hp, dr⟩
        rw [S.put_new R3.n] at R5
        exact h _ _ _ F4 R5 (.lst at4)
  · exact h.elim
theorem ok_box {k : Nat} (h : PSs X b (ts g W (mBoxS k))) : PSs X b (ts g W (mBoxC k)) := PSs.imp h fun D σ H ⟨ι, e, s, R, q, h⟩ => by
  unfold mBoxC at h
  split at h
  · rename_i r i x2
    obtain ⟨hi, h⟩ := tRs.ite h
    subst hi
    obtain ⟨v, hv, rv⟩ := q.2 0 _ rfl
    obtain ⟨v1, hv1, rv1⟩ := q.2 1 _ rfl
    cases hc : s.get r with
    | none => rw [hc] at h; exact h.elim
    | some cl =>
     rw [hc] at h
     cases cl with
     | crn k' tr =>
      obtain ⟨⟨hk, hk2, ht⟩, hG⟩ := tRs.ite (show tRs g W (if k' = k ∧ k < 2 ^ 60 ∧ tr.length < 1000 then .ok (.rt (.lst s.n)) ((s.put r (.crn k' tr)).new (.urn tr)) else .no) H ι D from h)
      subst hk
      cases rv with
      | @lst _ a ha =>
        obtain ⟨c, hH, dr⟩ := R.cell r _ a hc ha
        have hr := S.get_lt hc
        have R1 := R.as hc ha (c' := .lst [.int c]) ⟨_, hH, .cons (.int c) .nil⟩
        have hc1 : (s.put r (.lst [.int c])).get r = some (.lst [.int c]) := by rw [S.get_put R.n hr, if_pos rfl]
        refine ⟨ι, [some (.lst r), some (.int 0), none], _, R1, RE.pair (n := 1) q.1 ⟨_, hv, .lst ha⟩ ⟨_, hv1, rv1⟩, ?_⟩
        rw [box_std (k := k') hc1]
        intro v' H2 ι2 f R2 rv2
        cases rv2 with
        | @lst _ p hp =>
          have ha2 : ι2[r]? = some a := f.at ha
          have n1 : (s.put r (.lst [.int c])).n = s.n := rfl
          rw [n1] at hp
          have lt1 : r < (s.put r (.lst [.int c])).n := hr
          have hc2 : ((s.put r (.lst [.int c])).new (.lst [.int (boxF k' c).1, .int (boxF k' c).2.1, .int (boxF k' c).2.2])).get r = some (.lst [.int c]) := by rw [S.get_new R1.n, if_neg (by omega)]; exact hc1
          obtain ⟨xs, h2, hx⟩ := R2.cell r _ a hc2 ha2
          have ex : xs = [V.int c] := by
            cases hx with
            | cons u1 u2 => cases u2; cases u1; rfl
          subst ex
          have hc3 : ((s.put r (.lst [.int c])).new (.lst [.int (boxF k' c).1, .int (boxF k' c).2.1, .int (boxF k' c).2.2])).get s.n = some (.lst [.int (boxF k' c).1, .int (boxF k' c).2.1, .int (boxF k' c).2.2]) := by rw [S.get_new R1.n, if_pos n1.symm]
          obtain ⟨ys, h3, hy⟩ := R2.cell s.n _ p hc3 hp
          have ey : ys = [V.int (boxF k' c).1, V.int (boxF k' c).2.1, V.int (boxF k' c).2.2] := by
            cases hy with
            | cons h1 h2 =>
              cases h2 with
              | cons h4 h5 =>
                cases h5 with
                | cons h6 h7 => cases h7; cases h1; cases h4; cases h6; rfl
          subst ey
          have b1 : (boxF k' c).2.1.natAbs < 2 ^ 62 := by
            have := fmod_abs (i := c) (j := 2305843009213693951) (by decide)
            show (c.fmod 2305843009213693951 + 39373 * 0 + (k' : Int)).natAbs < 2 ^ 62
            omega
          have R3 := R2.as hc3 hp (c' := .urn tr) ⟨boxF k' c, h3, dr, b1, by show (0 : Int).natAbs + tr.length < 2 ^ 20; simp; omega⟩
          have e3 : ((s.put r (.lst [.int c])).new (.lst [.int (boxF k' c).1, .int (boxF k' c).2.1, .int (boxF k' c).2.2])).put s.n (.urn tr) = (s.put r (.lst [.int c])).new (.urn tr) := S.put_new (s := s.put r (.lst [.int c])) R1.n
          rw [e3] at R3
          have hc4 : ((s.put r (.lst [.int c])).new (.urn tr)).get r = some (.lst [.int c]) := by rw [S.get_new R1.n, if_neg (by omega)]; exact hc1
          have R4 := R3.as hc4 ha2 (c' := .crn k' tr) ⟨c, h2, dr⟩
          rw [S.put_old lt1, S.put_put] at R4
          exact hG _ _ _ f R4 (.lst hp)
      | _ => trivial
     | _ => exact h.elim
  · exact h.elim
theorem ok_take (h : PSs X b (ts g W mTakeS)) : PSs X b (ts g W mTakeC) := PSs.imp h fun D σ H ⟨ι, e, s, R, q, h⟩ => by
  unfold mTakeC at h
  split at h
  · rename_i r z x2 x3 x4 x5
    obtain ⟨v, hv, rv⟩ := q.2 0 _ rfl
    obtain ⟨v1, hv1, rv1⟩ := q.2 1 _ rfl
    cases hc : s.get r with
    | none => rw [hc] at h; exact h.elim
    | some cl =>
     rw [hc] at h
     cases cl with
     | urn tr0 =>
      cases tr0 with
      | nil => exact h.elim
      | cons yt tr =>
      obtain ⟨y, t⟩ := yt
      obtain ⟨⟨hz, hy0, hy1⟩, hG⟩ := tRs.ite (show tRs g W (if z = y ∧ 0 < y ∧ y < 2 ^ 20 then .ok (.rt (.int t)) (s.put r (.urn tr)) else .no) H ι D from h)
      subst hz
      cases rv with
      | @lst _ a ha =>
        obtain ⟨⟨b0, b1, b2⟩, hH, ⟨d1, d2⟩, hb1, hb2⟩ := R.cell r _ a hc ha
        have hr := S.get_lt hc
        have R1 := R.as hc ha (c' := .lst [.int b0, .int b1, .int b2]) ⟨_, hH, .cons (.int _) (.cons (.int _) (.cons (.int _) .nil))⟩
        have hc1 : (s.put r (.lst [.int b0, .int b1, .int b2])).get r = some (.lst [.int b0, .int b1, .int b2]) := by rw [S.get_put R.n hr, if_pos rfl]
        refine ⟨ι, [some (.lst r), some (.int y), none, none, none, none], _, R1, RE.pair (n := 4) q.1 ⟨_, hv, .lst ha⟩ ⟨_, hv1, rv1⟩, ?_⟩
        simp only [List.length_cons] at hb2
        have hb1' : b1.natAbs < 2 ^ 62 := hb1
        have hb2' : b2.natAbs + (tr.length + 1) < 2 ^ 20 := hb2
        rw [take_std R1.n hc1 hb1' (by omega) (by omega) (by omega)]
        intro v' H2 ι2 f R2 rv2
        rw [S.put_put] at R2
        have ha2 : ι2[r]? = some a := f.at ha
        have hc2 : (s.put r (.lst [.int (takeF (b0, b1, b2) y).2.1, .int (takeF (b0, b1, b2) y).2.2.1, .int (takeF (b0, b1, b2) y).2.2.2])).get r = some (.lst [.int (takeF (b0, b1, b2) y).2.1, .int (takeF (b0, b1, b2) y).2.2.1, .int (takeF (b0, b1, b2) y).2.2.2]) := by rw [S.get_put R.n hr, if_pos rfl]
        obtain ⟨ys, h3, hy⟩ := R2.cell r _ a hc2 ha2
        have ey : ys = [V.int (takeF (b0, b1, b2) y).2.1, V.int (takeF (b0, b1, b2) y).2.2.1, V.int (takeF (b0, b1, b2) y).2.2.2] := by
          cases hy with
          | cons h1 h2 =>
            cases h2 with
            | cons h4 h5 =>
              cases h5 with
              | cons h6 h7 => cases h7; cases h1; cases h4; cases h6; rfl
        subst ey
        have k1 : (takeF (b0, b1, b2) y).2.2.1.natAbs < 2 ^ 62 ∧ (takeF (b0, b1, b2) y).2.2.2.natAbs + tr.length < 2 ^ 20 := by
          unfold takeF
          split
          · exact ⟨hb1', by show b2.natAbs + tr.length < 2 ^ 20; omega⟩
          · exact ⟨hb1', by show (b2 + 1).natAbs + tr.length < 2 ^ 20; omega⟩
        have R3 := R2.as hc2 ha2 (c' := .urn tr) ⟨(takeF (b0, b1, b2) y).2, h3, d2, k1⟩
        rw [S.put_put] at R3
        rw [d1] at rv2
        exact hG v' H2 ι2 f R3 rv2
      | _ => trivial
     | _ => exact h.elim
  · exact h.elim
end
end EV
namespace EV
open L2 PySem PySem.Spec PyProof.Rows EVC
inductive Plan where
  | stop
  /-- one of z + 1, then more -/
  | ask (z : Nat) (next : Nat → Plan)
def Plan.all : Plan → (List (Nat × Nat) → Bool) → List (Nat × Nat) → Bool
  | .stop, f, acc => f acc
  | .ask z nx, f, acc => (List.range (z + 1)).all fun t => (nx t).all f (acc ++ [(z + 1, t)])
theorem Plan.draws : ∀ (p : Plan) (b : Int × Int × Int), ∃ tr, Draws b tr ∧ ∀ f acc, p.all f acc = true → f (acc ++ tr) = true
  | .stop, b => ⟨[], trivial, fun f acc h => by rw [List.append_nil]; exact h⟩
  | .ask z nx, b => by
    have h0 : (0 : Int) < ((z + 1 : Nat) : Int) := by omega
    obtain ⟨l1, l2⟩ := take_lt (b := b) h0
    obtain ⟨tr, h1, h2⟩ := Plan.draws (nx (takeF b ((z + 1 : Nat) : Int)).1.toNat) (takeF b ((z + 1 : Nat) : Int)).2
    refine ⟨(z + 1, (takeF b ((z + 1 : Nat) : Int)).1.toNat) :: tr, ⟨by omega, h1⟩, fun f acc h => ?_⟩
    have h3 := List.all_eq_true.mp (show ((List.range (z + 1)).all fun t => (nx t).all f (acc ++ [(z + 1, t)])) = true from h) (takeF b ((z + 1 : Nat) : Int)).1.toNat (List.mem_range.mpr (by omega))
    have h4 := h2 f _ h3
    rw [List.append_assoc] at h4
    exact h4
theorem PSs.or {X : Cx} {b : List PySem.Stmt} {t t' : TS} (h : PSs X b t) (h' : PSs X b t') : PSs X b (fun D σ H => t D σ H ∨ t' D σ H) := ⟨fun pins s σ H D I q => by
  rcases q with q | q
  · exact h.run pins s σ H D I q
  · exact h'.run pins s σ H D I q⟩
theorem PSs.locked {X : Cx} {b : List PySem.Stmt} {t : TS} (h : PSs X b t) : PSs X b (fun D σ H => ∃ d u, H d = some u ∧ Mut (some u) ∧ ∀ od, t D σ (upd H d (.frz od u))) := ⟨fun pins s σ H D I ⟨d, u, hu, mu, ht⟩ => by
  obtain ⟨od, I'⟩ := I.lock hu mu
  exact h.run pins s σ _ D I' (ht od)⟩
def spScr (K : PySem.W.Frag) (cs : List (Addr × Addr)) : Sp := fun vs H Q _ => (∃ (a : Addr) (ns : List Int), vs = [.ref a] ∧ SqL K H a (ns.map V.int) ∧ ns.length ≤ 63) ∧ (∀ p ∈ cs, H p.2 = some (.tbl #[])) ∧ ∀ H', Q (.bl true) H'
/-- where the law's own run begins -/
def begE (k : Nat) (tr : List (Nat × Nat)) (n : Nat) : En := some (.scr k tr) :: List.replicate n none
theorem law_open {P : Program} {w : World} {K : PySem.W.Frag} {mg : Str → Option Value} {base : Heap} {B : List EV.Row} {Z : List (Str × GV)} {PX : Cx → Prop} {cs : List (Addr × Addr)} {T : Tw} (hT : T.w = w) (hTl : ∀ t ∈ T.l, ∃ p ∈ cs, t = .tab p.2 ∨ ∃ q, t = .lm p.2 q)
    (hB : ∀ r ∈ B, RowOk B Z PX r) (hfn : ∀ (i : Nat) (r : EV.Row), B[i]? = some r → ∃ f fd, mg r.x = some (.ref f) ∧ Fun K r.x r.x r.st f fd)
    (hPX : ∀ X : Cx, X.K = K → X.mg = mg → X.prog = P → X.w = w → X.base = base → PX X)
    (hgx : ∀ r ∈ B, r.gx ≠ some false → ∀ f fd, mg r.x = some (.ref f) → Fun K r.x r.x r.st f fd → ∃ c P, fd.code = .ref c ∧ LamX.TabB base mg c P ∧ TabT T r P)
    (hZ : ∀ x v, Z.lookup x = some v → match v with
      | .fn i => ∀ r : EV.Row, B[i]? = some r → r.x = x
      | .bi => mg x = none
      | .mf id => mg x = some (.builtin id)
      | .cst d => ∃ v u, mg x = some u ∧ RelV v u ∧ ∀ H ι, RV K H ι d v
      | .exc => True)
    {r : EV.Row} {n m κ : Nat} {pl : Plan} (hr : r ∈ B) (hl : r.ps.length = 1) (hN : r.N.length = m + 1) {f : Addr} {fd : FuncData} (hm : mg r.x = some (.ref f)) (F : Fun K r.x r.x r.st f fd)
    (hev : pl.all (fun tr => isTrueR (finF (r.m (run B n) (begE κ tr m) ⟨0, []⟩))) [] = true) : FnOk P w K mg base (L2.CX P w) (lv n + 2) f fd r.ps (spScr K cs) := by
  have ok := hB r hr
  have ih := fn_ok (P := P) (w := w) (base := base) (T := T) hT hB hfn hPX hgx hZ n
  refine okC (k := lv n + 1) F ok.sc (fun vs H Q E h => ?_) (fun cdv A outer s H vs Q E hcd hroom h => ?_)
  · obtain ⟨⟨a, ns, rfl, _⟩, _⟩ := h
    exact hl.symm
  · obtain ⟨⟨a, ns, rfl, hq, hlen⟩, hH, hQ⟩ := h
    have body := ok.body (W := fun c d _ H => E c d H) (n := n) (T := T) (K := K) (X := cxOf (L2.CX P w) P w K mg base r.N r.x (defScope r.st) f cdv A outer s H E) (hPX _ rfl rfl rfl rfl rfl) ⟨rfl, rfl⟩ ⟨⟨rfl, hT.symm, rfl, (by
        have := hroom.un
        show (A.deeper _).units + 200 < cLine
        omega), takes_of rfl rfl rfl rfl, passes_of rfl⟩, rfl, ok.sc.nd, hroom.mono (show lv n ≤ lv n + 1 by omega), fun x h => h, fun x h => h, fun x h => .inl h, fun x h => h, fun x h => rfl, ok.sc.kind, fun x v hz => (by
        have z := hZ x v hz
        cases v with
        | fn j =>
          intro r' hr'
          have e := z r' hr'
          subst e
          obtain ⟨f', fd', k1, k2⟩ := hfn j r' hr'
          exact ⟨rfl, f', fd', k1, k2, ih j r' hr' f' fd' k1 k2⟩
        | bi => exact z
        | mf id => exact z
        | cst d => exact z
        | exc => exact z)⟩ ⟨hroom, fun hg => (by
        obtain ⟨c, P', h1, h2, h3⟩ := hgx r hr (by rw [hg]; decide) f fd hm F
        exact ⟨c, P', by rw [← h1]; exact hcd.symm, ⟨h2.code, h2.bm, h2.gP⟩, h3.gen hg⟩), fun hg => (by
        obtain ⟨c, P', h1, h2, h3⟩ := hgx r hr (by rw [hg]; decide) f fd hm F
        exact ⟨c, P', by rw [← h1]; exact hcd.symm, h2, h3.lam hg⟩)⟩
    obtain ⟨tr, dr, all⟩ := Plan.draws pl (boxF κ (csum ns))
    have hev' : isTrueR (finF (r.m (run B n) (begE κ tr m) ⟨0, []⟩)) = true := by
      have := all _ [] hev
      rwa [List.nil_append] at this
    have go : ∀ H1 : Hp, SqZ K H1 a (ns.map V.int) → (∀ p ∈ cs, H1 p.2 = some (.tbl #[])) → ts (cfg K T B n) (fun c d _ H => E c d H) r.m { nx := fun _ H' => Q .non H', rt := Q } (L2.start r.N [V.ref a]) H1 := fun H1 hz hH1 => by
      refine ⟨[], begE κ tr m, ⟨0, []⟩, ⟨fun t ht => ?_, rfl, rfl, List.nodup_nil, fun q c a e => by simp [S.get] at e⟩, ⟨?_, fun i d e => ?_⟩, fin_ts ?_⟩
      · obtain ⟨p, hp, e⟩ := hTl t ht
        rcases e with rfl | ⟨q, rfl⟩
        · exact ⟨#[], hH1 p hp, trivial⟩
        · exact LamX.TabS.nil (hH1 p hp)
      · simp [begE, L2.start]
        omega
      · match i, e with
        | 0, e =>
          cases e
          exact ⟨.ref a, by simp [L2.start], .scr ns hz hlen dr⟩
        | i + 1, e =>
          have e' : (List.replicate m (none : Option D))[i]? = some (some d) := e
          rw [List.getElem?_replicate] at e'
          split at e' <;> cases e'
      · revert hev'
        show isTrueR (finF (r.m (run B n) (begE κ tr m) ⟨0, []⟩)) = true → tRe _ _ (finF (r.m (run B n) (begE κ tr m) ⟨0, []⟩)) H1 [] Q
        generalize finF (r.m (run B n) (begE κ tr m) ⟨0, []⟩) = q
        intro hev
        unfold isTrueR at hev
        split at hev
        · rename_i b s1
          subst hev
          intro v H' ι' _ _ rv
          cases rv
          exact hQ _
        · cases hev
    refine ⟨_, PSs.or body (PSs.locked body), ?_⟩
    rcases hq with (hq | ⟨o, hq⟩) | hq
    · refine .inr ⟨a, _, hq, ?_, fun od => go _ (.inl ⟨od, upd_same⟩) fun p hp => ?_⟩
      · trivial
      · rw [upd_ne (fun z => by have := hH p hp; rw [z, hq] at this; cases this)]
        exact hH p hp
    · exact .inl (go H (.inl ⟨o, hq⟩) hH)
    · exact .inl (go H (.inr hq) hH)
theorem end_open {l : PySem.W.OpenLaw} {q : Program} {loose : List Str} {XP : (Str → Option Value) → Heap → Prop} {YP : World → Heap → Prop} {d : DefRec} {K : Params → PySem.W.Frag} {B : List EV.Row} {Z : List (Str × GV)} {PX : Cx → Prop} {r : EV.Row} {n m κ N : Nat} {pl : Plan}
    (hn : l.most = some m) (hm63 : m ≤ 63) (hdf : d.params.defaults = []) (hY : ∀ (w : World) (h : Heap), YP w h → (K w.params).In h) (hd : d.name = r.x) (hr : r ∈ B) {sc : Str} (hps : r.ps = [sc]) (hN : r.N.length = N + 1) (hnn : n ≤ 100)
    (hB : ∀ r ∈ B, RowOk B Z PX r) (hev : pl.all (fun tr => isTrueR (finF (r.m (run B n) (begE κ tr N) ⟨0, []⟩))) [] = true)
    (hb : ∀ {K : PySem.W.Frag} {f : Addr} {fd : FuncData}, Fun K r.x r.x r.st f fd → ∀ (s : Shared) (u : Value), BindsTo s fd ⟨[u], []⟩ [(sc, u)])
    (hfun : ∀ w : World, AllB (fun r => FunAt (K w.params) r.x r.st) B) (hz : ∀ w : World, AllZ (GvAt (K w.params) B) Z) (htb : ∀ w : World, B.all (tabB (K w.params) q B) = true)
    (hpx : ∀ (w : World) (h : Heap) (mg : Str → Option Value), (K w.params).In h → h.Ns mainGlobals mg → ∀ X : Cx, X.K = K w.params → X.mg = mg → PX X) :
    PySem.W.WalkO q loose XP YP l.row.toRowW d [] (fun f vs => PySem.call f vs) := by
  have hroom : Room (lv n + 2) callerA := by
    have h0 : Room 210 callerA := by constructor <;> decide
    exact h0.mono (by show 2 * n + 2 + 2 ≤ 210; omega)
  refine walk_ofTop (n := m) (k := lv n + 2) (x := sc) (CX := fun w => L2.CX l.prog w) hn (Nat.le_trans hm63 (by decide)) hdf hroom hY (fun w mg fa h KX G tabs hmg => ?_) fun w H s e s' z => ?_
  · have hfn' : ∀ (i : Nat) (r : EV.Row), B[i]? = some r → ∃ f fd, mg r.x = some (.ref f) ∧ Fun (K w.params) r.x r.x r.st f fd ∧ ∀ c P, PySem.W.tabIn (K w.params) r.x = some (c, P) → fd.code = .ref c := fun i r e => (AllB.get (hfun w) r (List.mem_of_getElem? e)).fun KX G
    have hfn : ∀ (i : Nat) (r : EV.Row), B[i]? = some r → ∃ f fd, mg r.x = some (.ref f) ∧ Fun (K w.params) r.x r.x r.st f fd := fun i r e => let ⟨f, fd, h1, h2, _⟩ := hfn' i r e; ⟨f, fd, h1, h2⟩
    obtain ⟨i, hi⟩ := List.mem_iff_getElem?.mp hr
    obtain ⟨f, fd, hm, F⟩ := hfn i r hi
    have hmg' := hmg
    rw [hd, hm] at hmg'
    cases hmg'
    have tb := tabs B (htb w)
    refine ⟨fd, csOf (K w.params) B, spScr (K w.params) (csOf (K w.params) B), fun p hp => (tb p hp).2.1, fun p hp => (tb p hp).2.2, fun p hp => (tb p hp).1, fun s u => hb F s u, fun H a ns hlen _ hH hS => ⟨⟨a, ns, rfl, hS, Nat.le_trans hlen hm63⟩, hH, fun _ => rfl⟩, fun base hK hN' hTB => ?_⟩
    have := law_open (P := l.prog) (w := w) (base := base) (cs := csOf (K w.params) B) (T := ⟨w, amsOf (K w.params) B⟩) rfl ams_cs hB hfn (fun X h1 h2 _ _ _ => hpx w h mg KX G X h1 h2) (fun r' hr' hg f' fd' hm' F' => ?_) (zOk KX G (AllZ.get (hz w))) hr (by rw [hps]; rfl) hN hm F hev
    · rw [hps] at this
      exact this
    · obtain ⟨c, P, h1, h2⟩ := gx_in (htb w) hr' hg
      obtain ⟨j, hj⟩ := List.mem_iff_getElem?.mp hr'
      obtain ⟨f2, fd2, k1, k2, k3⟩ := hfn' j r' hj
      rw [k1] at hm'
      cases hm'
      have e : fd2 = fd' := by
        obtain ⟨oc, od, kV, doc, pm, an, cdv, ct, osl, e1, lk, _⟩ := k2.ex
        obtain ⟨oc', od', kV', doc', pm', an', cdv', ct', osl', e1', lk', _⟩ := F'.ex
        rw [lk] at lk'
        exact Data.func.inj (congrArg Obj.data (Option.some.inj lk'))
      subst e
      have t := hTB _ h2
      exact ⟨c, P, k3 c P h1, ⟨t.code, t.bm, t.gP⟩, tabT_of (htb w) hr' h1⟩
  · obtain ⟨_, _, _, _, _, _, _, _, _, _, _, _, z⟩ := z
    exact z
end EV
namespace EV
open L2 PySem PySem.Spec PyProof.Rows EVC
def tListV (w : World) (td : TE) : TE := fun σ H Q => td σ H fun x H1 => ∃ d u kv, x = .ref d ∧ Rd H1 d u ∧ (KvOf w d u kv ∧ kv.length ≤ 100000) ∧ ∀ p, H1 p = none → Q (.ref p) (upd H1 p (.lst (kv.map fun p => p.2)))
theorem vals_got : ∀ {kv : List (V × V)} {es : List DictEntry}, KvR kv es → Vals (kv.map fun p => p.2) (es.map (·.val))
  | _, _, .nil => .nil
  | _, _, .cons h t => .cons h.2 (vals_got t)
theorem pe_listV {X : Cx} {e : PySem.Expr} {td : TE} {p apos cpos pos : Pos} (hg : Gl X "list") (hm : X.mg "list" = none) (hc : X.calm = true) (he : PE X e td) (hbase : attributeBase e "values" X.env (eval e X.env) = eval e X.env := by rfl) (hline : (apos.endLine == cpos.line) = true := by rfl)
    (na : starEach [.Call (.Attribute e "values" apos) [] [] cpos] X.env = (false, eval (.Call (.Attribute e "values" apos) [] [] cpos) X.env) :: starEach [] X.env := by rfl) : PE X (.Call (.Name "list" p) [.Call (.Attribute e "values" apos) [] [] cpos] [] pos) (tListV X.w td) := by
  refine ⟨fun pins s σ H Q I h => ?_⟩
  refine Call_ (ld_blt I hg hm (show bootBuiltins "list" = some (.type "list") by kernel_rfl) ?_)
  refine PyProof.Rows.callWith_type1 (PyProof.Rows.args_cons ?_ na) na rfl
  refine wpAny_Call_method (T := "dict") (id := "dict.values") hbase rfl hline F.plainAttrs_dict F.slot_dict_values F.type_dict_values (thn (he.run pins s σ H _ I h) fun v s1 ⟨x, H1, I1, rx, d, u, kv, ex, hd, ⟨hkv, hl⟩, q⟩ => ?_)
  subst ex
  obtain rfl : v = Value.ref d := rx
  obtain ⟨o, ok⟩ : ∃ o, ObjOk X.prog X.w H1 s1.heap d (.frz o u) := by
    rcases hd with hd | ⟨o, hd⟩
    · obtain ⟨o, ho⟩ := ObjOk.has (I1.hok d _ hd)
      exact ⟨o, ho, I1.hok d _ hd⟩
    · exact ⟨o, I1.hok d _ hd⟩
  obtain ⟨es, ep, hod, hex, hs, hr⟩ := kv_facts ok hkv
  obtain ⟨ho, _⟩ := ok
  have hm : s1.heap.DictRaw d es ep := ⟨o, ho, hex, hod⟩
  refine ⟨hm.typeIs, ?nd, ?_⟩
  case nd => intro b eb; cases eb; exact ⟨o, ho, hex.2.1⟩
  have I2 : Inv X pins σ H1 { s1 with heap := s1.heap.push { cls := .type "dict_values", data := .fields #[.ref d] } } := I1.kept (t' := s1.toks) fun b ob q => Heap.get?_push_of_some _ q
  have ln : es.size = kv.length := by
    have := Paired.length hr
    simpa using this.symm
  have fin : wpAny (model X.prog X.w) X.A (call (.type "list") [.ref s1.heap.objs.size]) (EP X pins σ Q) X.xe { s1 with heap := s1.heap.push { cls := .type "dict_values", data := .fields #[.ref d] } } := by
    refine PySem.W.kdl_call (PySem.KdlSrc.rawValues (es := es) (ep := ep) (d := d)) (I1.ok.hd hc) ⟨⟨_, Heap.get?_push_size _ rfl, rfl, rfl⟩, hm.at fun ob q => Heap.get?_push_of_some _ q⟩ (by rw [ln, sizeLine_eq]; omega) fun h' tk acc c' hk hD hacc => ?_
    have ea : acc.toList = es.toList.map (·.val) := by
      refine List.ext_getElem? fun i => ?_
      by_cases hi : i < es.size
      · obtain ⟨v, hv⟩ : ∃ v, acc[i]? = some v := ⟨acc[i]'(by rw [hacc.1]; exact hi), Array.getElem?_eq_getElem _⟩
        obtain ⟨hi', e⟩ := hacc.2 i v hv
        rw [Array.getElem?_toList, hv, List.getElem?_map, Array.getElem?_toList, Array.getElem?_eq_getElem hi, e]
        rfl
      · rw [List.getElem?_eq_none (by rw [Array.length_toList, hacc.1]; omega), List.getElem?_eq_none (by rw [List.length_map, Array.length_toList]; omega)]
    have hv : Vals (kv.map fun p => p.2) acc.toList := by rw [ea]; exact vals_got hr
    have hn := HOk.none I2.hok (a := (s1.heap.push { cls := .type "dict_values", data := .fields #[.ref d] } : Heap).objs.size) (by
      cases e : (s1.heap.push { cls := .type "dict_values", data := .fields #[.ref d] } : Heap).get? (s1.heap.push { cls := .type "dict_values", data := .fields #[.ref d] } : Heap).objs.size with
      | none => rfl
      | some u => exact absurd (Heap.lt_size e) (Nat.lt_irrefl _))
    refine ⟨.ref _, _, I2.laid (o := .lst (kv.map fun p => p.2)) (t' := tk) (fun b ob z => hk b ob z) (Nat.le_refl _) ⟨by rw [List.length_map, sizeLine_eq]; omega, acc.toList, c', hv, by rw [Array.toArray_toList]; exact hD⟩, rfl, q _ hn⟩
  show wpAny _ _ (callWith cpos (.builtin "dict.values") [.ref d] [] []) _ X.xe s1
  exact method_meetsIn F.slot_dict_values F.entry_dict_values rfl (PySem.evalArgs_none ⟨rfl, hm.typeIs, F.args_dict_values_1 _, _, meets_dict_values_raw d hs, ⟨es, ep, hm⟩, PyProof.Rows.args_nil fin⟩)
def dListV : D → S → R D
  | .dct r, s => match s.get r with
    | some (.dct kvs) => newL (kvs.map fun p => p.2) s
    | some (.fdc kvs) => newL (kvs.map fun p => p.2) s
    | some (.dci kvs) => newL (kvs.map fun p => p.2) s
    | some (.fdi kvs) => newL (kvs.map fun p => p.2) s
    | _ => .no
  | _, _ => .no
section
variable {X : Cx} {B : List EV.Row} {Z : List (Str × GV)} {g : Cfg} {W : WX} {n : Nat} {N : List Str} {ns : Ns} {H : Hp} {ι : List Addr}
theorem kvd_vals {K : PySem.W.Frag} : ∀ {kvs : List (D × D)} {kv : List (V × V)}, KvD K H ι kvs kv → RVs K H ι (kvs.map fun p => p.2) (kv.map fun p => p.2)
  | _, _, .nil => .nil
  | _, _, .cons h t => .cons h.2 (kvd_vals t)
theorem e_listV (C : Ct X B Z g W n N ns) {a : PySem.Expr} {ma : ME} {p apos cpos pos : Pos} (hg : Gl X "list") (hm : X.mg "list" = none) (ha : PE X a (te g W ma)) (hbase : attributeBase a "values" X.env (eval a X.env) = eval a X.env := by rfl) (hline : (apos.endLine == cpos.line) = true := by rfl)
    (na : starEach [.Call (.Attribute a "values" apos) [] [] cpos] X.env = (false, eval (.Call (.Attribute a "values" apos) [] [] cpos) X.env) :: starEach [] X.env := by rfl) : PE X (.Call (.Name "list" p) [.Call (.Attribute a "values" apos) [] [] cpos] [] pos) (te g W (mUn dListV ma)) :=
  PE.imp (pe_listV hg hm C.at_.calm ha hbase hline na) fun σ H Q ⟨ι, e, s, R, q, h⟩ => ⟨ι, e, s, R, q, tR.bind h fun d s1 v H1 ι1 he f1 R1 r1 h1 => by
    clear he
    unfold dListV at h1
    split at h1
    · rename_i r
      cases r1 with
      | @dct _ a ha1 =>
        cases hc : s1.get r with
        | none => simp only [hc] at h1; exact h1.elim
        | some c =>
          simp only [hc] at h1
          cases c with
          | dct kvs =>
            obtain ⟨l, hH, hr, hz⟩ := R1.at ha1 hc
            have kd := KvD.ofD hr
            rw [← C.at_.w] at hH
            exact ⟨a, _, _, rfl, .inl hH, ⟨.inl ⟨l, rfl, rfl⟩, by rw [← Paired.length kd]; exact hz⟩, newL_ok R1 (kvd_vals kd) h1⟩
          | fdc kvs =>
            obtain ⟨l, o, hH, hr, hz⟩ := R1.at ha1 hc
            have kd := KvD.ofD hr
            rw [← C.at_.w] at hH
            exact ⟨a, _, _, rfl, .inr ⟨o, hH⟩, ⟨.inl ⟨l, rfl, rfl⟩, by rw [← Paired.length kd]; exact hz⟩, newL_ok R1 (kvd_vals kd) h1⟩
          | dci kvs =>
            obtain ⟨l, hH, hr, hz⟩ := R1.at ha1 hc
            have kd := KvD.ofI hr
            replace h1 : tRe g (wat W σ) (newL (kvs.map fun p => p.2) s1) H1 ι1 Q := h1
            rw [map_intv] at h1
            exact ⟨a, _, _, rfl, .inl hH, ⟨.inr ⟨l, rfl, rfl⟩, by rw [← Paired.length kd, List.length_map]; exact hz⟩, newL_ok R1 (kvd_vals kd) h1⟩
          | fdi kvs =>
            obtain ⟨l, o, hH, hr, hz⟩ := R1.at ha1 hc
            have kd := KvD.ofI hr
            replace h1 : tRe g (wat W σ) (newL (kvs.map fun p => p.2) s1) H1 ι1 Q := h1
            rw [map_intv] at h1
            exact ⟨a, _, _, rfl, .inr ⟨o, hH⟩, ⟨.inr ⟨l, rfl, rfl⟩, by rw [← Paired.length kd, List.length_map]; exact hz⟩, newL_ok R1 (kvd_vals kd) h1⟩
          | _ => exact h1.elim
    · exact h1.elim⟩
end
end EV
namespace EV
open L2 PySem PySem.Spec PyProof.Rows EVC
def revS : D → S → R Src
  | .tup l, s => .ok (.tup l.reverse) s
  | .lst r, s => match s.seq r with
    | some l => .ok (.rvL r l.length) s
    | none => .no
  | _, _ => .no
def iRevE (a : ME) : MI := fun F e s => (a F e s).bind revS
section
variable {g : Cfg} {H : Hp} {ι : List Addr}
theorem src_revT {a : Addr} {l : List D} {xs : List V} (h : SqT g.K H a xs) (r : RVs g.K H ι l xs) : SrcOk g H ι (.tup l.reverse) (RT.ItvT g.K a xs.length) := by
  intro H1 ι1 s f R i
  have h1 := f.tup _ _ h
  have r1 := r.fw f
  have hl := r1.length
  refine ⟨fun e => ?_, fun d e => ?_⟩
  · have := List.getElem?_eq_none_iff.mp (Option.some.inj e)
    rw [List.length_reverse] at this
    show xs.length ≤ i
    omega
  · have e' : l.reverse[i]? = some d := Option.some.inj e
    have hi : i < l.length := by
      have := (List.getElem?_eq_some_iff.mp e').1
      rwa [List.length_reverse] at this
    rw [List.getElem?_reverse hi] at e'
    obtain ⟨v, hv, rv⟩ := r1.get e'
    rw [hl] at hv
    exact ⟨⟨by rw [← hl]; exact hi, xs, v, h1, hv⟩, fun x H' ⟨e1, y⟩ => by
      subst e1
      have z := y xs h1
      rw [hv] at z
      cases z
      exact ⟨Fw.refl, R, rv⟩⟩
theorem src_revL {a : Addr} {r n : Nat} (h : ι[r]? = some a) : SrcOk g H ι (.rvL r n) (Itv g.K a n) := by
  intro H1 ι1 s f R i
  have h1 := f.at h
  by_cases hi : i < n
  · cases hs : s.seq r with
    | none => exact ⟨fun e => by simp [Src.at, hi, hs] at e, fun d e => by simp [Src.at, hi, hs] at e⟩
    | some l =>
      cases hd : l[n - 1 - i]? with
      | none => exact ⟨fun e => by simp [Src.at, hi, hs, hd] at e, fun d e => by simp [Src.at, hi, hs, hd] at e⟩
      | some d =>
        refine ⟨fun e => by simp [Src.at, hi, hs, hd] at e, fun d' e => ?_⟩
        have e' : d = d' := by simpa [Src.at, hi, hs, hd] using e
        subst e'
        obtain ⟨xs, k1, k2⟩ := R.seq h1 hs
        obtain ⟨v, hv, rv⟩ := k2.get hd
        exact ⟨⟨hi, xs, v, k1, hv⟩, fun x H' ⟨e1, y⟩ => by
          subst e1
          have z := y xs k1
          rw [hv] at z
          cases z
          exact ⟨Fw.refl, R, rv⟩⟩
  · exact ⟨fun _ => Nat.le_of_not_lt hi, fun d e => by simp [Src.at, hi] at e⟩
end
section
variable {X : Cx} {g : Cfg} {W : WX} {a tg : PySem.Expr} {ma : ME} {p pos : Pos}
theorem i_revE (A : At X g W) (hg : Gl X "reversed") (hm : X.mg "reversed" = none) (ha : PE X a (te g W ma)) (hs : starEach [a] X.env = (false, eval a X.env) :: starEach [] X.env := by rfl) : PI X tg (.Call (.Name "reversed" p) [a] [] pos) (ti g W (iRevE ma)) :=
  PI.imp (RT.pi_revA hg hm ha hs) fun σ H Q ⟨ι, e, s, R, q, h⟩ => ⟨ι, e, s, R, q, tR.bind h fun d s1 v H1 ι1 he f1 R1 r1 h1 => by
    clear he
    rw [A.K]
    unfold revS at h1
    split at h1
    · cases r1 with
      | tup k1 k2 => exact ⟨_, _, rfl, .inr ⟨k1, h1 _ _ _ Fw.refl R1 (src_revT k1 k2)⟩⟩
    · rename_i r
      cases r1 with
      | @lst _ a ha1 =>
        cases hs : s1.seq r with
        | none => simp only [hs] at h1; exact h1.elim
        | some l =>
          simp only [hs] at h1
          obtain ⟨xs, k1, k2⟩ := R1.seq ha1 hs
          rw [k2.length] at h1
          exact ⟨a, xs, rfl, .inl ⟨k1, h1 _ _ _ Fw.refl R1 (src_revL ha1)⟩⟩
    · exact h1.elim⟩
end
end EV
namespace EV
open L2 PySem PySem.Spec PyProof.Rows EVC
def okT : R Fl → Bool
  | .ok (.rt (.bl true)) _ => true
  | _ => false
def mTrueC (m : MS) : MS := fun F e s => if okT (m F (List.replicate e.length none) ⟨0, []⟩) = true then .ok (.rt (.bl true)) s else .no
theorem okT_eq {r : R Fl} (h : okT r = true) : ∃ s, r = .ok (.rt (.bl true)) s := by
  unfold okT at h
  split at h
  · exact ⟨_, rfl⟩
  · cases h
section
variable {X : Cx} {g : Cfg} {W : WX} {b : List PySem.Stmt} {m : MS}
theorem ok_true (h : PSs X b (ts g W m)) : PSs X b (ts g W (mTrueC m)) := PSs.imp h fun D σ H ⟨ι, e, s, R, q, h⟩ => by
  obtain ⟨hk, h⟩ := tRs.ite h
  obtain ⟨s2, e2⟩ := okT_eq hk
  refine ⟨[], List.replicate e.length none, ⟨0, []⟩, R.bare, ⟨by rw [List.length_replicate]; exact q.1, fun i d z => ?_⟩, ?_⟩
  · rw [List.getElem?_replicate] at z
    split at z <;> cases z
  · rw [e2]
    intro v H2 ι2 f R2 rv
    obtain ⟨F, R3⟩ := R.frame f R2
    cases rv
    exact h _ _ _ F R3 (.bl true)
end
theorem run_true {B : List EV.Row} {n i : Nat} {r : EV.Row} {m : MS} {s : S} (hB : B[i]? = some r) (hp : r.ps = []) (hm : r.m = mTrueC m) (hk : okT (m (run B n) (List.replicate r.N.length none) ⟨0, []⟩) = true) : run B (n + 1) i [] s = .ok (.bl true) s := by
  have e : startE r.N.length [] = List.replicate r.N.length none := by simp [startE]
  show runRow B[i]? (run B n) [] s = _
  rw [hB]
  unfold runRow
  simp only [hp, List.length_nil, if_true, e, hm, mTrueC, List.length_replicate, hk]
  rfl
end EV
namespace EV
open L2 PySem PySem.Spec PyProof.Rows EVC
theorem fm_congr {α β : Type} {f h : α → Option β} : ∀ {l : List α}, (∀ k ∈ l, f k = h k) → l.filterMap f = l.filterMap h
  | [], _ => rfl
  | a :: l, e => by
    have e1 := e a (List.mem_cons_self ..)
    have e2 := fm_congr (l := l) fun k hk => e k (List.mem_cons_of_mem _ hk)
    rw [List.filterMap_cons, List.filterMap_cons, e1, e2]
theorem picked_rev (xs : Array Value) : ((List.range xs.size).filterMap fun (k : Nat) => xs[(((xs.size : Int) - 1) + (k : Int) * (-1)).toNat]?) = xs.toList.reverse := by
  have e : ∀ k ∈ List.range xs.size, xs[(((xs.size : Int) - 1) + (k : Int) * (-1)).toNat]? = xs[xs.size - 1 - k]? := fun k hk => by
    have := List.mem_range.mp hk
    rw [show (((xs.size : Int) - 1) + (k : Int) * (-1)).toNat = xs.size - 1 - k by omega]
  rw [fm_congr e]
  have h := PySem.W.krv_pick xs
  unfold slicePick at h
  rw [PySem.W.krv_bounds] at h
  change ((sliceRange ((xs.size : Int) - 1) (-1) (-1)).filterMap (xs[·]?)).toArray = _ at h
  rw [PySem.W.krv_sliceRange, List.filterMap_map] at h
  have h' := congrArg Array.toList h
  simpa [Function.comp_def] using h'
section
variable {prog : Program} {w : World} {A : Around} {E : Value → Shared → Prop} {s : Shared}
theorem applied_rev {sl : Addr} {vk : Value} {n : Nat} {Q : Int × Int × Nat → Shared → Prop} (hs : s.heap.IsSliceOf sl .none .none vk) (pk : IsPart vk (some (-1))) (h : Q ((n : Int) - 1, -1, n) s) : wpAny (model prog w) A (Builtin.Slice.sliceApplied (.ref sl) (pure (n : Int))) Q E s := by
  obtain ⟨os, hos, hcs, hds⟩ := id hs
  unfold Builtin.Slice.sliceApplied Builtin.Slice.sliceFields
  refine wpAny_bind (wpAny_bind (wpAny_field hos hds (x := .none) rfl (wpAny_bind (wpAny_field hos hds (x := .none) rfl (wpAny_bind (wpAny_field hos hds (x := vk) rfl (wpAny_pure ?_)))))))
  refine wpAny_bind (HT.slicePart_ pk ?_)
  show wpAny _ _ (if ((-1 : Int) == 0) = true then _ else _) _ _ s
  rw [if_neg (by decide)]
  refine wpAny_bind (slicePart_none (wpAny_bind (slicePart_none (wpAny_bind (wpAny_pure ?_)))))
  have e1 : Builtin.Slice.sliceAdjust none none (-1) (n : Int) = ((n : Int) - 1, -1) := rfl
  have e2 : Builtin.Slice.slicePlaces ((n : Int) - 1) (-1) (-1) = n := by
    unfold Builtin.Slice.slicePlaces
    rw [if_neg (by decide)]
    split
    · rw [show (-(-1) : Int) = 1 by decide, Int.ediv_one]
      omega
    · omega
  show wpAny _ _ (match Builtin.Slice.sliceAdjust none none (-1) (n : Int) with | (lo, hi) => pure (lo, (-1 : Int), Builtin.Slice.slicePlaces lo hi (-1))) _ _ s
  rw [e1]
  show wpAny _ _ (pure ((n : Int) - 1, (-1 : Int), Builtin.Slice.slicePlaces ((n : Int) - 1) (-1) (-1))) _ _ s
  rw [e2]
  exact wpAny_pure h
theorem getItem_rev {t sl : Addr} {items : Array Value} {vk : Value} {Q : Value → Shared → Prop} (ht : IsTup s.heap t items) (hs : s.heap.IsSliceOf sl .none .none vk) (pk : IsPart vk (some (-1))) (hz : items.size ≤ sizeLine)
    (h : Q (.ref s.heap.objs.size) { s with heap := s.heap.push { cls := .type "tuple", data := .seq items.toList.reverse.toArray } }) : wpAny (model prog w) A (getItem (.ref t) (.ref sl)) Q E s := by
  have hz2 : sizeOk (.seq items.toList.reverse.toArray) := by
    show items.toList.reverse.toArray.size ≤ sizeLine
    rw [List.size_toArray, List.length_reverse, Array.length_toList]
    exact hz
  obtain ⟨os, hos, hcs, hds⟩ := id hs
  unfold getItem
  try with_reducible refine wpAny_holding ?_
  first | refine wpAny_bind (wpAny_pure ?_) | skip
  refine wpAny_bind (wpAny_sequenceKey ht.typeIs (by decide) (wpAny_bind (wpAny_callSpecial?_slot (name := Str.ofString "__getitem__") ht.typeIs slot_tuple_getitem (wpAny_call_entry slot_tuple_getitem ht.typeIs entry_tuple_getitem ?_ (args_tuple_getitem _ _)))))
  refine wpAny_bind (m := Builtin.Tuple.tupleItemsOf (.ref t)) (tupleItemsOf_ ht (wpAny_bind (wpAny_typeOf (T := "slice") ⟨os, hos, hcs⟩ ?_)))
  rw [if_pos (by decide)]
  refine wpAny_bind (applied_rev hs pk ?_)
  have no : ¬ ((((items.size : Int) - 1) == 0 && (-1 : Int) == 1 && items.size == items.size) = true) := by simp
  show wpAny _ _ (if (((items.size : Int) - 1) == 0 && (-1 : Int) == 1 && items.size == items.size) = true then _ else _) _ _ s
  rw [if_neg no, picked_rev]
  first
    | exact wpAny_bind (m := Builtin.Tuple.tupleExact _) (wpAny_newObj_type (wpAny_pure ⟨_, rfl, wpAny_pure h⟩) hz2)
    | exact wpAny_bind (m := Builtin.Tuple.tupleExact _) (wpAny_newObj_type (wpAny_bind (wpAny_pure (wpAny_pure ⟨_, rfl, wpAny_pure h⟩))) hz2)
    | exact wpAny_bind (wpAny_bind (m := Builtin.Tuple.tupleExact _) (wpAny_newObj_type (wpAny_pure (wpAny_pure ⟨_, rfl, wpAny_pure h⟩)) hz2))
    | exact wpAny_bind (wpAny_bind (m := Builtin.Tuple.tupleExact _) (wpAny_newObj_type (wpAny_pure ⟨_, rfl, wpAny_pure h⟩) hz2))
end
section
variable {X : Cx} {g : Cfg} {W : WX}
def tRevS (K : PySem.W.Frag) (td : TE) (tk : TO) : TE := fun σ H Q => td σ H fun x H1 => tk σ H1 fun o H2 => o = some (-1) ∧ ∃ a xs, x = .ref a ∧ ((SqT K H2 a xs ∧ ∀ p, H2 p = none → Q (.ref p) (upd H2 p (.tup xs.reverse))) ∨ (SqL K H2 a xs ∧ ∀ p, H2 p = none → Q (.ref p) (upd H2 p (.lst xs.reverse))))
theorem pe_revS {e k : PySem.Expr} {td : TE} {tk : TO} {p2 pos : Pos} (he : PE X e td) (hk : PO X (some k) tk) : PE X (.Subscript e (.Slice none none (some k) p2) pos) (tRevS X.K td tk) := by
  refine ⟨fun pins s σ H Q I h => ?_⟩
  refine Subscript_ (thn (he.run pins s σ H _ I h) fun v s1 ⟨x, H1, I1, r1, q1⟩ => ?_)
  refine wpAny_Slice ?_
  rw [evalPart_none]
  refine wpAny_pure (wpAny_pure (thn (hk.run pins s1 σ H1 _ I1 q1) fun vk s2 ⟨o, H2, I2, pk, eo, a, xs, ex, q2⟩ => ?_))
  subst eo
  subst ex
  obtain rfl : v = Value.ref a := r1
  have I4 : Inv X pins σ H2 { s2 with heap := s2.heap.push { cls := .type "slice", data := .fields #[.none, .none, vk] } } := I2.kept (t' := s2.toks) fun b ob q => Heap.get?_push_of_some _ q
  have sl : (s2.heap.push { cls := .type "slice", data := .fields #[.none, .none, vk] }).IsSliceOf s2.heap.objs.size .none .none vk := Heap.IsSliceOf.new ..
  show wpAny (model X.prog X.w) X.A (subscriptTail e (.Slice none none (some k) p2) (.ref a) (.ref s2.heap.objs.size)) (EP X pins σ Q) X.xe { s2 with heap := s2.heap.push { cls := .type "slice", data := .fields #[.none, .none, vk] } }
  rcases q2 with ⟨hq, q⟩ | ⟨hq, q⟩
  · obtain ⟨its, rv, ht, hz⟩ := I4.tuple hq
    refine tail_any (ops := [.ref a, .ref s2.heap.objs.size]) ht.typeIs slot_tuple_getitem.lookup (getItem_rev ht sl pk (by rw [List.size_toArray, ← rv.length]; exact hz) ?_) (by with_unfolding_all rfl)
    exact ⟨.ref _, _, I4.laid (o := .tup xs.reverse) (t' := s2.toks) (fun b ob q => Heap.get?_push_of_some _ q) (Nat.le_refl _) ⟨by rw [List.length_reverse]; exact hz, its.reverse, rv.reverse, IsTup.new _ _⟩, rfl, q _ (I4.hok.fresh (Nat.le_refl _))⟩
  · obtain ⟨its, rv, ht, hz⟩ := I4.list hq
    refine tail_any (ops := [.ref a, .ref s2.heap.objs.size]) ht.isList.typeIs slot_list_getitem.lookup (wpAny_getItem_list_slice ht.isList sl .none .none pk (by decide) ?_ (by rw [List.size_toArray, ← rv.length]; exact hz)) (by with_unfolding_all rfl)
    rw [PySem.W.krv_pick]
    exact ⟨.ref _, _, I4.laid (o := .lst xs.reverse) (t' := s2.toks) (fun b ob q => Heap.get?_push_of_some _ q) (Nat.le_refl _) ⟨by rw [List.length_reverse]; exact hz, its.reverse, _, rv.reverse, Heap.get?_push_size _ rfl⟩, rfl, q _ (I4.hok.fresh (Nat.le_refl _))⟩
def revO (d : D) (s : S) : Option Int → R D
  | some i => if i = -1 then (match d with
    | .tup l => .ok (.tup l.reverse) s
    | .lst r => (match s.seq r with
      | some l => newL l.reverse s
      | none => .no)
    | _ => .no) else .no
  | none => .no
def mRevS (a : ME) (k : MO) : ME := fun F e s => (a F e s).bind fun x s1 => (k F e s1).bind fun o s2 => revO x s2 o
theorem RVs.rev {K : PySem.W.Frag} {H : Hp} {ι : List Addr} : ∀ {ds : List D} {vs : List V}, RVs K H ι ds vs → RVs K H ι ds.reverse vs.reverse
  | _, _, .nil => .nil
  | _, _, .cons h t => by
    rw [List.reverse_cons, List.reverse_cons]
    exact (RVs.rev t).append (.cons h .nil)
theorem e_revS (A : At X g W) {a k : PySem.Expr} {ma : ME} {mk : MO} {p2 pos : Pos} (ha : PE X a (te g W ma)) (hk : PO X (some k) (to g W mk)) : PE X (.Subscript a (.Slice none none (some k) p2) pos) (te g W (mRevS ma mk)) :=
  PE.imp (pe_revS ha hk) fun σ H Q ⟨ι, e, s, R, q, h⟩ => ⟨ι, e, s, R, q, tR.bind h fun d s1 v H1 ι1 _ f1 R1 r1 h1 => ⟨ι1, e, s1, R1, q.fw f1, tR.bind h1 fun o s2 o' H2 ι2 _ f2 R2 eo h2 => by
    subst eo
    unfold revO at h2
    split at h2
    · obtain ⟨hi, h2⟩ := tR.ite h2
      subst hi
      refine ⟨rfl, ?_⟩
      rw [A.K]
      have r2 := r1.fw f2
      cases r2 with
      | @tup a l xs k1 k2 => exact ⟨a, xs, rfl, .inl ⟨k1, fun p hp => h2 _ _ _ (Fw.new hp) (R2.new hp) (.tup (.inl (.inl upd_same)) (k2.rev.fw (Fw.new hp)))⟩⟩
      | @lst r a ha1 =>
        cases hs : s2.seq r with
        | none => simp only [hs] at h2; exact h2.elim
        | some l =>
          simp only [hs] at h2
          obtain ⟨xs, k1, k2⟩ := R2.seq ha1 hs
          exact ⟨a, xs, rfl, .inr ⟨k1, newL_ok R2 k2.rev h2⟩⟩
      | _ => exact h2.elim
    · exact h2.elim⟩⟩
end
end EV
namespace EV
open L2 PySem PySem.Spec PyProof.Rows
end EV
namespace EV
open L2 PySem PySem.Spec PyProof.Rows
section
variable {X : Cx} {g : Cfg} {W : WX} {pins : List (Addr × Obj)} {σ : L2.St} {H0 : Hp} {fa : Addr} {vs : List Value} {ps : List KD}
/-- between two calls of the key -/
structure Kp (g : Cfg) (X : Cx) (pins : List (Addr × Obj)) (σ : L2.St) (H0 : Hp) (a kS : Addr) (s : Shared) (H : Hp) : Prop where
  inv : Inv X pins σ H s
  fw : Fw g.K H0 [] H []
  rs : RS g.K g.T H [] ⟨0, []⟩
  fa : FpOk X pins H a
  fS : FpOk X pins H kS
end
end EV
namespace EV
open L2 PySem PySem.Spec PyProof.Rows
end EV
namespace EV
open L2 PySem PySem.Spec PyProof.Rows EVC
end EV
namespace EV
open L2 PySem PySem.Spec PyProof.Rows EVC
theorem keys_got : ∀ {kv : List (V × V)} {es : List DictEntry}, KvR kv es → Vals (kv.map fun p => p.1) (es.map (·.key))
  | _, _, .nil => .nil
  | _, _, .cons h t => .cons h.1 (keys_got t)
def rListD (w : World) : List V → Hp → VK → Prop := fun vs H Q => ∃ d u kv, vs = [.ref d] ∧ Rd H d u ∧ (KvOf w d u kv ∧ kv.length ≤ 100000) ∧ ∀ p, H p = none → Q (.ref p) (upd H p (.lst (kv.map fun p => p.1)))
theorem call_listD {X : Cx} (hc : X.calm = true) : CallR X (.type "list") (rListD X.w) := by
  intro pins s1 σ H1 xs us Q I1 r ⟨d, u, kv, ex, hd, ⟨hkv, hl⟩, q⟩
  subst ex
  obtain ⟨v, rfl, rx⟩ := vals1 r
  obtain rfl : v = Value.ref d := rx
  obtain ⟨o, ok⟩ : ∃ o, ObjOk X.prog X.w H1 s1.heap d (.frz o u) := by
    rcases hd with hd | ⟨o, hd⟩
    · obtain ⟨o, ho⟩ := ObjOk.has (I1.hok d _ hd)
      exact ⟨o, ho, I1.hok d _ hd⟩
    · exact ⟨o, I1.hok d _ hd⟩
  obtain ⟨es, ep, hod, hex, hs, hr⟩ := kv_facts ok hkv
  obtain ⟨ho, _⟩ := ok
  have hm : s1.heap.DictRaw d es ep := ⟨o, ho, hex, hod⟩
  have ln : es.size = kv.length := by
    have := Paired.length hr
    simpa using this.symm
  refine PySem.W.kdl_call (PySem.KdlSrc.rawDict (prog := X.prog) (w := X.w) (es := es) (ep := ep) (d := d) hs) (I1.ok.hd hc) hm (by rw [ln, sizeLine_eq]; omega) fun h' tk acc c' hk hD hacc => ?_
  have ea : acc.toList = es.toList.map (·.key) := by
    refine List.ext_getElem? fun i => ?_
    by_cases hi : i < es.size
    · obtain ⟨v, hv⟩ : ∃ v, acc[i]? = some v := ⟨acc[i]'(by rw [hacc.1]; exact hi), Array.getElem?_eq_getElem _⟩
      obtain ⟨hi', e⟩ := hacc.2 i v hv
      rw [Array.getElem?_toList, hv, List.getElem?_map, Array.getElem?_toList, Array.getElem?_eq_getElem hi, e]
      rfl
    · rw [List.getElem?_eq_none (by rw [Array.length_toList, hacc.1]; omega), List.getElem?_eq_none (by rw [List.length_map, Array.length_toList]; omega)]
  have hv : Vals (kv.map fun p => p.1) acc.toList := by rw [ea]; exact keys_got hr
  have hn := I1.hok.fresh (a := s1.heap.objs.size) (Nat.le_refl _)
  exact ⟨.ref _, _, I1.laid (o := .lst (kv.map fun p => p.1)) (t' := tk) (fun b ob z => hk b ob z) (Nat.le_refl _) ⟨by rw [List.length_map, sizeLine_eq]; omega, acc.toList, c', hv, by rw [Array.toArray_toList]; exact hD⟩, rfl, q _ hn⟩
def bListA : List D → S → R D
  | [.dct r], s => (match s.get r with
    | some (.dct kvs) => newL (kvs.map fun p => p.1) s
    | some (.fdc kvs) => newL (kvs.map fun p => p.1) s
    | some (.dci kvs) => newL (kvs.map fun p => .int p.1) s
    | some (.fdi kvs) => newL (kvs.map fun p => .int p.1) s
    | _ => .no)
  | ds, s => bList ds s
section
variable {X : Cx} {g : Cfg} {W : WX} {H : Hp} {ι : List Addr}
theorem kvd_keys {K : PySem.W.Frag} : ∀ {kvs : List (D × D)} {kv : List (V × V)}, KvD K H ι kvs kv → RVs K H ι (kvs.map fun p => p.1) (kv.map fun p => p.1)
  | _, _, .nil => .nil
  | _, _, .cons h t => .cons h.1 (kvd_keys t)
theorem c_listA (A : At X g W) : CallR X (.type "list") (rc g bListA) := by
  intro pins s σ H xs us Q I r ⟨E, ι, ds, st, R, rv, q⟩
  unfold bListA at q
  split at q
  · rename_i r'
    cases rv with
    | cons r1 r2 =>
      cases r2
      cases r1 with
      | @dct _ a ha1 =>
        cases hc : st.get r' with
        | none => simp only [hc] at q; exact q.elim
        | some c =>
          simp only [hc] at q
          refine call_listD A.calm pins s σ H _ us Q I r ?_
          cases c with
          | dct kvs =>
            obtain ⟨l, hH, hr, hz⟩ := R.at ha1 hc
            have kd := KvD.ofD hr
            rw [← A.w] at hH
            exact ⟨a, _, _, rfl, .inl hH, ⟨.inl ⟨l, rfl, rfl⟩, by rw [← Paired.length kd]; exact hz⟩, newL_ok R (kvd_keys kd) q⟩
          | fdc kvs =>
            obtain ⟨l, o, hH, hr, hz⟩ := R.at ha1 hc
            have kd := KvD.ofD hr
            rw [← A.w] at hH
            exact ⟨a, _, _, rfl, .inr ⟨o, hH⟩, ⟨.inl ⟨l, rfl, rfl⟩, by rw [← Paired.length kd]; exact hz⟩, newL_ok R (kvd_keys kd) q⟩
          | dci kvs =>
            obtain ⟨l, hH, hr, hz⟩ := R.at ha1 hc
            have kd := KvD.ofI hr
            replace q : tRe g E (newL (kvs.map fun p => D.int p.1) st) H ι Q := q
            rw [map_intk] at q
            exact ⟨a, _, _, rfl, .inl hH, ⟨.inr ⟨l, rfl, rfl⟩, by rw [← Paired.length kd, List.length_map]; exact hz⟩, newL_ok R (kvd_keys kd) q⟩
          | fdi kvs =>
            obtain ⟨l, o, hH, hr, hz⟩ := R.at ha1 hc
            have kd := KvD.ofI hr
            replace q : tRe g E (newL (kvs.map fun p => D.int p.1) st) H ι Q := q
            rw [map_intk] at q
            exact ⟨a, _, _, rfl, .inr ⟨o, hH⟩, ⟨.inr ⟨l, rfl, rfl⟩, by rw [← Paired.length kd, List.length_map]; exact hz⟩, newL_ok R (kvd_keys kd) q⟩
          | _ => exact q.elim
  · exact c_list A pins s σ H xs us Q I r ⟨E, ι, ds, st, R, rv, q⟩
end
end EV
namespace ZM
open L2 PySem PySem.Spec PyProof.Rows
/-- where a zip stands, its last pair held or not -/
def St (k m : Bool) (z TI TO i1 i2 l1 l2 : Addr) (n : Nat) (h : Heap) : Prop :=
  (∃ a b, Parts k m h z TI TO i1 i2 l1 l2 .none n n a b) ∨
    ∃ T f a b x y, IsZipHeld h z TI TO T f ∧ IsPair h T x y ∧ T ∉ [z, TI, TO, i1, i2] ∧ IsPair h TI (.ref i1) (.ref i2) ∧ IsPair h TO a b ∧ ItAt k h i1 l1 n ∧ ItAt m h i2 l2 n
end ZM
namespace EV
open L2 PySem PySem.Spec PyProof.Rows EVC
end EV
namespace EV
open L2 PySem PySem.Spec PyProof.Rows EVC
end EV
namespace EV
open L2 PySem PySem.Spec PyProof.Rows EVC
end EV
namespace EV
open L2 PySem PySem.Spec PyProof.Rows EVC
end EV
namespace EV
open L2 PySem PySem.Spec PyProof.Rows EVC
end EV
namespace EV
open L2 PySem PySem.Spec PyProof.Rows EVC
end EV
namespace EV
open L2 PySem PySem.Spec PyProof.Rows EVC
def bSrtI : List D → S → R D
  | [.dct r], s => (match s.get r with
    | some (.dci kvs) => srtL (kvs.map fun p => .int p.1) s
    | some (.fdi kvs) => srtL (kvs.map fun p => .int p.1) s
    | _ => bSrtB [.dct r] s)
  | ds, s => bSrtB ds s
section
variable {X : Cx} {g : Cfg} {W : WX} {E : XK}
theorem srt_int {pins : List (Addr × Obj)} {s : Shared} {σ : L2.St} {H : Hp} {ι : List Addr} {st : S} {a : Addr} {kvs : List (Int × D)} {l : List (Key × V)} {o : Obj} {Q : VK} {E' : Value → Shared → Prop} (I : Inv X pins σ H s) (A : At X g W) (R : RS g.K g.T H ι st) (ok : ObjOk X.prog X.w H s.heap a (.frz o (.dK l))) (hr : IRel g.K H ι kvs l) (hz : kvs.length ≤ 100000)
    (q : tRe g E (srtL (kvs.map fun p => .int p.1) st) H ι Q) : wpAny (model X.prog X.w) X.A (call (.builtin "sorted") [.ref a]) (EP X pins σ Q) E' s := by
  obtain ⟨es, ep, hod, hex, hs, hk⟩ := kv_facts (w := X.w) ok (.inr ⟨l, rfl, rfl⟩)
  obtain ⟨ho, _⟩ := ok
  have kd := KvD.ofI hr
  have el : es.size = kvs.length := by
    have h1 := Paired.length hk
    have h2 := Paired.length kd
    rw [List.length_map] at h2
    rw [← Array.length_toList, ← h1, ← h2]
  have hz' : (es.toList.map (·.key)).length ≤ sizeLine := by rw [List.length_map, Array.length_toList, el, sizeLine_eq]; omega
  have kk := kvd_keys kd
  rw [← map_intk] at kk
  exact srt_ok I A R (fun A' E2 Q2 hh h2' => EVS.gath_dict hs ⟨o, ho, hex, hod⟩ (by rw [el, sizeLine_eq]; omega) A' E2 Q2 hh fun s' us k g' o' e => h2' s' us k g' o' (by subst e; exact ⟨_, _, keys_got hk, kk, hz', rfl⟩)) q
theorem c_srtI (A : At X g W) : CallR X (.builtin "sorted") (rc g bSrtI) := by
  intro pins s σ H xs us Q I r ⟨E, ι, ds, st, R, rv, q⟩
  unfold bSrtI at q
  split at q
  · rename_i r'
    cases hc : st.get r' with
    | none => rw [hc] at q; exact c_srtB A pins s σ H xs us Q I r ⟨E, ι, _, st, R, rv, q⟩
    | some c =>
      rw [hc] at q
      cases c with
      | dci kvs =>
        cases rv with
        | cons r1 r2 =>
          cases r2
          cases r1 with
          | @dct _ a ha =>
            obtain ⟨u, rfl, ru⟩ := vals1 r
            cases ru
            obtain ⟨l, hH, hr, hz⟩ := R.at ha hc
            obtain ⟨o, ho⟩ := ObjOk.has (I.hok a _ hH)
            exact srt_int (o := o) I A R ⟨ho, I.hok a _ hH⟩ hr hz q
      | fdi kvs =>
        cases rv with
        | cons r1 r2 =>
          cases r2
          cases r1 with
          | @dct _ a ha =>
            obtain ⟨u, rfl, ru⟩ := vals1 r
            cases ru
            obtain ⟨l, o, hH, hr, hz⟩ := R.at ha hc
            exact srt_int (o := o) I A R (I.hok a _ hH) hr hz q
      | _ => exact c_srtB A pins s σ H xs us Q I r ⟨E, ι, _, st, R, rv, q⟩
  · exact c_srtB A pins s σ H xs us Q I r ⟨E, ι, ds, st, R, rv, q⟩
end
end EV
namespace EV
open L2 PySem PySem.Spec PyProof.Rows EVC
end EV
namespace EV
open L2 PySem PySem.Spec PyProof.Rows EVC
end EV
namespace EV
open L2 PySem PySem.Spec PyProof.Rows EVC
end EV
namespace EV
open L2 PySem PySem.Spec PyProof.Rows EVC
def eqD : Nat → D → D → Bool
  | 0, _, _ => false
  | _ + 1, .non, .non => true
  | _ + 1, .bl a, .bl b => a == b
  | _ + 1, .int a, .int b => a == b
  | _ + 1, .str a, .str b => decide (a = b)
  | n + 1, .tup l, .tup m => l.length == m.length && (l.zip m).all fun p => eqD n p.1 p.2
  | _ + 1, _, _ => false
theorem eqDs_eq {n : Nat} (ih : ∀ a b, eqD n a b = true → a = b) : ∀ (l m : List D), (l.length == m.length && (l.zip m).all fun p => eqD n p.1 p.2) = true → l = m
  | [], [], _ => rfl
  | [], _ :: _, h => by simp at h
  | _ :: _, [], h => by simp at h
  | a :: l, b :: m, h => by
    simp only [List.length_cons, List.zip_cons_cons, List.all_cons, Bool.and_eq_true, beq_iff_eq, Nat.add_right_cancel_iff] at h
    obtain ⟨h1, h2, h3⟩ := h
    rw [ih a b h2, eqDs_eq ih l m (by simp only [Bool.and_eq_true, beq_iff_eq]; exact ⟨h1, h3⟩)]
theorem eqD_eq : ∀ (n : Nat) (a b : D), eqD n a b = true → a = b := by
  intro n
  induction n with
  | zero => intro a b h; cases h
  | succ n ih =>
    intro a b h
    unfold eqD at h
    split at h
    · rename_i e; cases e
    · rfl
    · rw [eq_of_beq h]
    · rw [eq_of_beq h]
    · rw [of_decide_eq_true h]
    · rename_i e
      cases e
      rw [eqDs_eq ih _ _ h]
    · cases h
def eqDs (l m : List D) : Bool := l.length == m.length && (l.zip m).all fun p => eqD 12 p.1 p.2
abbrev Memo := List (Nat × List D × D)
def memoF (t : Memo) (F : FT) : FT := fun i ds s => match t.find? fun q => q.1 == i && eqDs ds q.2.1 with
  | some q => .ok q.2.2 s
  | none => F i ds s
def Knows (t : Memo) (F : FT) : Prop := ∀ q ∈ t, ∀ s, F q.1 q.2.1 s = .ok q.2.2 s
theorem Knows.nil {F : FT} : Knows [] F := fun _ h => nomatch h
theorem Knows.cons {F : FT} {i : Nat} {ds : List D} {d : D} {t : Memo} (h : ∀ s, F i ds s = .ok d s) (k : Knows t F) : Knows ((i, ds, d) :: t) F := fun q hq => by
  rcases List.mem_cons.mp hq with rfl | hq
  · exact h
  · exact k q hq
theorem memoF_eq {t : Memo} {F : FT} (h : Knows t F) : memoF t F = F := by
  funext i ds s
  unfold memoF
  split
  · rename_i q hq
    have h1 := List.find?_some hq
    have h2 := List.mem_of_find?_eq_some hq
    simp only [Bool.and_eq_true, beq_iff_eq] at h1
    rw [← h1.1, eqDs_eq (eqD_eq 12) ds q.2.1 h1.2]
    exact (h q h2 s).symm
  · rfl
theorem okT_known {F : FT} {t : Memo} {m : MS} {e : En} {s : S} (h : Knows t F) (k : okT (m (memoF t F) e s) = true) : okT (m F e s) = true := by
  rw [memoF_eq h] at k
  exact k
end EV
namespace EV
open L2 PySem PySem.Spec PyProof.Rows EVC
theorem plan_known {pl : Plan} {κ N : Nat} {F : FT} {t : Memo} {m : MS} {s : S} (h : Knows t F) (k : pl.all (fun tr => isTrueR (finF (m (memoF t F) (begE κ tr N) s))) [] = true) : pl.all (fun tr => isTrueR (finF (m F (begE κ tr N) s))) [] = true := by
  rw [memoF_eq h] at k
  exact k
end EV
namespace EV
open L2 PySem PySem.Spec PyProof.Rows EVC
end EV
namespace EV
open L2 PySem PySem.Spec PyProof.Rows EVC
end EV
namespace EV
open L2 PySem PySem.Spec PyProof.Rows EVC
def Plan.nx : Plan → Nat → Plan
  | .ask _ nx, t => nx t
  | .stop, _ => .stop
end EV
namespace EV
open L2 PySem PySem.Spec PyProof.Rows EVC
end EV
namespace EV
open L2 PySem PySem.Spec PyProof.Rows EVC
end EV
namespace EV
open L2 PySem PySem.Spec PyProof.Rows EVC
end EV
namespace L2
open PySem PySem.Spec PyProof.Rows
/-- a tuple display, the object itself kept -/
def tTupN (t : TA) : TE := fun σ H Q => t σ H fun xs H1 => xs.length ≤ sizeLine ∧ ∀ p, H1 p = none → ∀ o : Obj, o.dict = none → Q (.ref p) (upd H1 p (.frz o (.tup xs)))
theorem pe_tupN {X : Cx} {es : List Expr} {t : TA} {pos : Pos} {x1 : Nat} (h : PA X es t) : PE X (.Tuple es x1 pos) (tTupN t) := by
  refine ⟨fun pins s σ H Q I hq => ?_⟩
  refine wpAny_Tuple_spliced (thn (h.run pos pins s σ H _ I hq) fun us s1 ⟨xs, H1, I1, r, z, q⟩ => ⟨by rw [← r.length]; exact z, ?_⟩)
  have hf : H1 s1.heap.objs.size = none := I1.hok.fresh (Nat.le_refl _)
  refine ⟨.ref s1.heap.objs.size, upd H1 s1.heap.objs.size (.frz { cls := .type "tuple", data := .seq us.toArray } (.tup xs)), I1.laid (t' := s1.toks) (fun b u e => Heap.get?_push_of_some _ e) (Nat.le_refl _) ?_, rfl, q _ hf _ rfl⟩
  exact ⟨Heap.get?_push_size _ rfl, z, us, r, ⟨_, Heap.get?_push_size _ rfl, rfl, _, rfl⟩⟩
end L2
namespace EV
open L2 PySem PySem.Spec PyProof.Rows EVC
section
variable {X : Cx} {B : List Row} {Z : List (Str × GV)} {g : Cfg} {W : WX} {n : Nat} {N : List Str} {ns : Ns} {p pos : Pos} {a b : PySem.Expr} {ma mb : ME}
def mTpn (a : MA) : ME := fun F e s => (a F e s).bind fun ds s1 => if ds.length ≤ 100000 then .ok (.tpn ds) s1 else .no
theorem e_tpn {es : List PySem.Expr} {mr : MA} {k : Nat} {pos : Pos} (h : PA X es (ta g W mr)) : PE X (.Tuple es k pos) (te g W (mTpn mr)) :=
  PE.imp (pe_tupN h) fun σ H Q ⟨ι, e, s, R, q, h⟩ => ⟨ι, e, s, R, q, tR.bind h fun ds s1 vs H1 ι1 _ f1 R1 r1 h1 => by
    by_cases hl : ds.length ≤ 100000
    · rw [if_pos hl] at h1
      exact ⟨by rw [← r1.length]; exact le_line hl, fun p hp o ho => h1 _ _ _ (Fw.new hp) (R1.new hp) (.tpn ⟨o, upd_same, ho⟩ (r1.fw (Fw.new hp)))⟩
    · rw [if_neg hl] at h1
      exact h1.elim⟩
/-- as plain tuples, so deep -/
def dnD : Nat → D → D
  | 0, d => d
  | n + 1, .tpn l => .tup (l.map (dnD n))
  | n + 1, .tup l => .tup (l.map (dnD n))
  | _ + 1, d => d
/-- the outermost alone -/
def dn1 : D → D
  | .tpn l => .tup l
  | d => d
theorem rvs_map {K : PySem.W.Frag} {H : Hp} {ι : List Addr} {f : D → D} (hf : ∀ d v, RV K H ι d v → RV K H ι (f d) v) : ∀ {l : List D} {xs : List V}, RVs K H ι l xs → RVs K H ι (l.map f) xs
  | _, _, .nil => .nil
  | _, _, .cons r t => .cons (hf _ _ r) (rvs_map hf t)
theorem dnD_ok {K : PySem.W.Frag} {H : Hp} {ι : List Addr} : ∀ (n : Nat) (d : D) (v : V), RV K H ι d v → RV K H ι (dnD n d) v
  | 0, _, _, h => h
  | n + 1, .tpn l, _, .tpn h hs => .tup h.sq (rvs_map (dnD_ok n) hs)
  | n + 1, .tup l, _, .tup h hs => .tup h (rvs_map (dnD_ok n) hs)
  | _ + 1, .non, _, h => h
  | _ + 1, .bl _, _, h => h
  | _ + 1, .int _, _, h => h
  | _ + 1, .str _, _, h => h
  | _ + 1, .lst _, _, h => h
  | _ + 1, .dct _, _, h => h
  | _ + 1, .set _, _, h => h
  | _ + 1, .ty _, _, h => h
  | _ + 1, .kls _, _, h => h
  | _ + 1, .scr _ _, _, h => h
theorem dn1_ok {K : PySem.W.Frag} {H : Hp} {ι : List Addr} {d : D} {v : V} (h : RV K H ι d v) : RV K H ι (dn1 d) v := by
  cases h with
  | tpn h hs => exact .tup h.sq hs
  | non => exact .non
  | bl b => exact .bl b
  | int i => exact .int i
  | str x => exact .str x
  | tup h hs => exact .tup h hs
  | lst h => exact .lst h
  | dct h => exact .dct h
  | set h => exact .set h
  | ty m => exact .ty m
  | kls h => exact .kls h
  | scr l h1 h2 h3 => exact .scr l h1 h2 h3
def mMap (f : D → D) (a : ME) : ME := fun F e s => (a F e s).bind fun d s1 => .ok (f d) s1
theorem e_map {f : D → D} (hf : ∀ {K : PySem.W.Frag} {H : Hp} {ι : List Addr} {d : D} {v : V}, RV K H ι d v → RV K H ι (f d) v) (h : PE X a (te g W ma)) : PE X a (te g W (mMap f ma)) :=
  PE.imp h fun σ H Q ⟨ι, e, s, R, q, h⟩ => ⟨ι, e, s, R, q, by
    have h2 : tR g (wat W σ) (RV g.K) ((ma g.F e s).bind fun d s1 => .ok (f d) s1) H ι Q := h
    show tR g (wat W σ) (RV g.K) (ma g.F e s) H ι Q
    cases hm : ma g.F e s with
    | no => rw [hm] at h2; exact h2
    | ex x s1 => rw [hm] at h2; exact h2
    | ok d s1 =>
      rw [hm] at h2
      exact fun v H1 ι1 f1 R1 r1 => h2 v H1 ι1 f1 R1 (hf r1)⟩
def mDn (a : ME) : ME := mMap (dnD 12) a
def mDn1 (a : ME) : ME := mMap dn1 a
theorem e_dn (h : PE X a (te g W ma)) : PE X a (te g W (mDn ma)) := e_map (fun h => dnD_ok 12 _ _ h) h
theorem e_dn1 (h : PE X a (te g W ma)) : PE X a (te g W (mDn1 ma)) := e_map (fun h => dn1_ok h) h
end
end EV
namespace EV
open L2 PySem PySem.Spec PyProof.Rows EVC
section
variable {X : Cx} {g : Cfg} {W : WX} {H : Hp} {ι : List Addr} {st : S} {pins : List (Addr × Obj)} {σ : L2.St} {s : Shared}
/-- the pairs of such a tuple, key and value as plain tuples -/
def pairD : D → Option (D × D)
  | .tup [k, v] => some (dnD 12 k, dnD 12 v)
  | .tpn [k, v] => some (dnD 12 k, dnD 12 v)
  | _ => none
def isT : D → Bool
  | .tup _ => true
  | _ => false
def pairsD : List D → Option (List (D × D))
  | [] => some []
  | d :: r => match pairD d with
    | some p => (match pairsD r with
      | some q => some (p :: q)
      | none => none)
    | none => none
theorem pair_rv {K : PySem.W.Frag} {d : D} {v : V} {p : D × D} (h : RV K H ι d v) (e : pairD d = some p) : ∃ T vk vv, v = .ref T ∧ SqT K H T [vk, vv] ∧ RV K H ι p.1 vk ∧ RV K H ι p.2 vv := by
  unfold pairD at e
  split at e
  · cases e
    cases h with
    | tup h1 h2 => cases h2 with
      | cons r1 r2 => cases r2 with
        | cons r2 r3 => cases r3; exact ⟨_, _, _, rfl, h1, dnD_ok _ _ _ r1, dnD_ok _ _ _ r2⟩
  · cases e
    cases h with
    | tpn h1 h2 => cases h2 with
      | cons r1 r2 => cases r2 with
        | cons r2 r3 => cases r3; exact ⟨_, _, _, rfl, h1.sq, dnD_ok _ _ _ r1, dnD_ok _ _ _ r2⟩
  · cases e
theorem pairs_ok (I : Inv X pins σ H s) (A : At X g W) : ∀ {l : List D} {xs : List V} {its : List Value} {q : List (D × D)}, RVs g.K H ι l xs → Vals xs its → pairsD l = some q → plKs q = true → (q.all fun p => isT p.1) = true →
    ∃ (Tl : List Addr) (zs : List (NestedKey × Addr × Value)), its = Tl.map .ref ∧ Tl.length = zs.length ∧ DX g.K H ι q zs ∧ ∀ (j : Nat) (T : Addr) (z : NestedKey × Addr × Value), Tl[j]? = some T → zs[j]? = some z → PairAt s.heap T (.ref z.2.1) z.2.2
  | [], _, _, q, .nil, .nil, e, _, _ => by
    cases e
    exact ⟨[], [], rfl, rfl, .nil, fun j T z h => by cases h⟩
  | d :: l, _, _, q, .cons r1 r2, .cons v1 v2, e, hp, ht => by
    unfold pairsD at e
    cases hd : pairD d with
    | none => rw [hd] at e; cases e
    | some p =>
      rw [hd] at e
      cases hq : pairsD l with
      | none => rw [hq] at e; cases e
      | some q' =>
        rw [hq] at e
        cases e
        unfold plKs at hp
        rw [List.all_cons, Bool.and_eq_true] at hp ht
        obtain ⟨Tl, zs, e1, e2, e3, e4⟩ := pairs_ok I A r2 v2 hq hp.2 ht.2
        obtain ⟨T, vk, vv, ev, hs, rk, rv⟩ := pair_rv r1 hd
        subst ev
        cases v1
        obtain ⟨us, ru, p1, _⟩ := I.tuple (by rw [A.K]; exact hs)
        cases ru with
        | @cons _ uk _ _ ru1 ru2 => cases ru2 with
          | @cons _ uv _ _ ru2 ru3 =>
            cases ru3
            obtain ⟨k, hk⟩ := plK_key 8 _ hp.1
            have rb : ∃ b, vk = .ref b := by
              have hp1 := ht.1
              cases hk0 : p.1 with
              | tup l0 => rw [hk0] at rk; cases rk; exact ⟨_, rfl⟩
              | _ => rw [hk0] at hp1; cases hp1
            obtain ⟨b, rfl⟩ := rb
            cases ru1
            refine ⟨T :: Tl, (k, b, uv) :: zs, by rw [e1]; rfl, by simp [e2], .cons ⟨hk, rk, _, rv, ru2⟩ e3, fun j T' z h1 h2 => ?_⟩
            cases j with
            | zero => cases h1; cases h2; exact .inl p1
            | succ j => exact e4 j T' z (by simpa using h1) (by simpa using h2)
theorem plKs_put {kvs : List (D × D)} {x y : D} (h : plKs kvs = true) (hx : plK 8 x = true) : plKs (dput kvs x y) = true := by
  unfold plKs at h ⊢
  rw [List.all_eq_true] at h ⊢
  intro p hp
  unfold dput at hp
  split at hp
  · obtain ⟨p0, h0, e⟩ := List.mem_map.mp hp
    split at e
    · subst e; exact h p0 h0
    · subst e; exact h p0 h0
  · rcases List.mem_append.mp hp with hp | hp
    · exact h p hp
    · obtain rfl := List.mem_singleton.mp hp
      exact hx
def dputs : List (D × D) → List (D × D) → List (D × D)
  | kvs, [] => kvs
  | kvs, p :: r => dputs (dput kvs p.1 p.2) r
theorem dputs_ok {K : PySem.W.Frag} : ∀ {q : List (D × D)} {zs : List (NestedKey × Addr × Value)} {kvs : List (D × D)} {xs : List (NestedKey × Addr × Value)}, DX K H ι q zs → plKs q = true → DX K H ι kvs xs → plKs kvs = true → DX K H ι (dputs kvs q) (storedAllH xs zs)
  | [], _, _, _, .nil, _, h, _ => h
  | p :: q, _, kvs, xs, .cons (b := z) ⟨h1, h2, v, h3, h4⟩ t, hp, h, hk => by
    unfold plKs at hp
    rw [List.all_cons, Bool.and_eq_true] at hp
    have := dput_ok hp.1 h1 h2 h3 h4 hk h
    refine dputs_ok (kvs := dput kvs p.1 p.2) (xs := storedH xs z.1 z.2.1 z.2.2) t hp.2 this ?_
    exact plKs_put hk hp.1
/-- dict(such a tuple) -/
def dictR (s : S) : Option (List (D × D)) → R D
  | some q => if (plKs q && q.all fun p => isT p.1) = true ∧ q.length ≤ 10000 ∧ (dputs [] q).length ≤ 10000 then .ok (.dct s.n) (s.new (.dct (dputs [] q))) else .no
  | none => .no
def bDictT : List D → S → R D
  | [.tpn l], s => dictR s (pairsD l)
  | _, _ => .no
theorem c_dictT (A : At X g W) : CallR X (.type "dict") (rc g bDictT) := by
  intro pins s σ H xs us Q I r ⟨E, ι, ds, st, R, rv, q⟩
  unfold bDictT at q
  split at q
  · rename_i l
    cases rv with
    | cons r1 r2 =>
      cases r2
      obtain ⟨u, rfl, ru⟩ := vals1 r
      cases r1 with
      | @tpn a _ xs h1 h2 =>
        cases ru
        unfold dictR at q
        cases hq : pairsD l with
        | none => rw [hq] at q; exact q.elim
        | some kvs =>
          rw [hq] at q
          obtain ⟨⟨hb, hz, hz2⟩, q⟩ := tR.ite (show tRe g E (if (plKs kvs && kvs.all fun p => isT p.1) = true ∧ kvs.length ≤ 10000 ∧ (dputs [] kvs).length ≤ 10000 then .ok (.dct st.n) (st.new (.dct (dputs [] kvs))) else .no) H ι Q from q)
          rw [Bool.and_eq_true] at hb
          obtain ⟨o, ho, hd⟩ := h1
          obtain ⟨k1, k2, its, k3, o', k4, k5, m, k6⟩ := I.hok a _ ho
          rw [k1] at k4
          cases k4
          obtain ⟨Tl, zs, e1, e2, dx, e4⟩ := pairs_ok I A h2 k3 hq hb.1 hb.2
          subst e1
          have hzl : zs.length = kvs.length := by
            have : ∀ {kvs : List (D × D)} {xs : List (NestedKey × Addr × Value)}, DX g.K H ι kvs xs → xs.length = kvs.length := fun {kvs xs} h => by
              unfold DX at h
              induction h with
              | nil => rfl
              | cons _ _ ih => simp [ih]
            exact this dx
          have hsl : (10000 : Nat) ≤ sizeLine := by rw [sizeLine_eq]; omega
          have hdd := DX.is (K := g.K) A.K I dx
          have ok : PlainSeq "tuple" s.heap a (Tl.map Value.ref).toArray ∧ PairItems s.heap (Tl.map Value.ref).toArray (fun j => Tl.getD j 0) (zs.map fun z => (Value.ref z.2.1, z.2.2)) := by
            refine ⟨⟨o, m, k1, k5, hd, k6⟩, by simp [e2], fun j k v hj => ?_⟩
            rw [List.getElem?_map] at hj
            obtain ⟨z, hz1, hz2⟩ := Option.map_eq_some_iff.mp hj
            cases hz2
            have hlt : j < Tl.length := by rw [e2]; exact (List.getElem?_eq_some_iff.mp hz1).1
            have hT : Tl[j]? = some (Tl.getD j 0) := by rw [List.getD_eq_getElem?_getD, List.getElem?_eq_getElem hlt]; rfl
            exact ⟨by rw [List.getElem?_toArray, List.getElem?_map, hT]; rfl, e4 j _ z hT hz1⟩
          refine call_dict_pairsH (knd := nestedKind X.prog X.w) (ps := zs) (PairArg.tuple a (Tl.map Value.ref).toArray (fun j => Tl.getD j 0) (zs.map fun z => (Value.ref z.2.1, z.2.2))) (I.ok.hd A.calm) ?_ ok ⟨by simp, fun i key v hr => ?_⟩ ?_ ?_ ?_
          · have := A.un
            show X.A.units + 1 + 1 + 8 < cLine
            omega
          · rw [PairRel, List.getElem?_map] at hr
            obtain ⟨z, hz1, hz2⟩ := Option.map_eq_some_iff.mp hr
            cases hz2
            exact ⟨_, _, hz1, rfl⟩
          · intro h' hk x hx
            exact nestedKind_stays.stays (fun b o' _ _ e _ => hk b o' (Nat.ne_of_lt (Heap.lt_size e)) (by simp) e) (hdd x hx)
          · simp [hzl]; omega
          · intro h' tk hm hk
            have dx0 : DX g.K H ι (dputs [] kvs) (storedAllH [] zs) := dputs_ok dx hb.1 .nil rfl
            obtain ⟨l', k7, k8⟩ := dx0.split
            obtain ⟨o2, es, ep, m1, m2, m3, m4, _, m5⟩ := hm
            have hn : H s.heap.objs.size = none := I.hok.fresh (Nat.le_refl _)
            have hs : (s.heap.objs.size == sysModules) = false := beq_eq_false_iff_ne.mpr (Ne.symm (Nat.ne_of_lt I.big))
            have f := Fw.newA (o := DAo X.w s.heap.objs.size l') (K := g.K) (ι := ι) hn
            have da : DAt X.w s.heap.objs.size l' h' := ⟨storedAllH [] zs, k8, o2, es, ep, m1, m2, m3, m4, m5⟩
            refine ⟨.ref s.heap.objs.size, upd H s.heap.objs.size (DAo X.w s.heap.objs.size l'), ?_, rfl, ?_⟩
            · exact I.laid (t' := tk) (fun b o e => hk b o (by simp) e) (Nat.le_refl _) ⟨⟨da, hs⟩, ⟨o2, m1⟩, fun a1 a2 p k => ⟨p.1.stay k, p.2⟩⟩
            · refine q _ _ _ f (R.alloc hn ⟨l', by rw [← A.w]; exact upd_same, k7.imp fun r => r.fw f, by omega⟩) (.dct ?_)
              rw [← R.len]; simp
  · exact q.elim
end
end EV
namespace EV
open L2 PySem PySem.Spec PyProof.Rows EVC
section
variable {prog : Program} {w : World} {A : Around} {E : Value → Shared → Prop} {s : Shared}
abbrev NKE := NestedKey × Addr × Value
inductive DHit (prog : Program) (w : World) (A : Around) (s : Shared) (xb : List NKE) : List NKE → Bool → Prop
  | nil : DHit prog w A s xb [] true
  | miss {k : NestedKey} {a : Addr} {v : Value} {r : List NKE} : atKey xb k = none → DHit prog w A s xb ((k, a, v) :: r) false
  | hit {k : NestedKey} {a : Addr} {v : Value} {p : Addr × Value} {r : List NKE} {e b : Bool} : atKey xb k = some p → PySem.SeqAt.EqP prog w A s v p.2 e → (e = true → DHit prog w A s xb r b) → DHit prog w A s xb ((k, a, v) :: r) (e && b)
theorem DHit.inv {xb : List NKE} {k : NestedKey} {a : Addr} {v : Value} {r : List NKE} {b : Bool} (h : DHit prog w A s xb ((k, a, v) :: r) b) :
    (atKey xb k = none ∧ b = false) ∨ ∃ p e b', atKey xb k = some p ∧ PySem.SeqAt.EqP prog w A s v p.2 e ∧ (e = true → DHit prog w A s xb r b') ∧ b = (e && b') := by
  cases h with
  | miss hn => exact .inl ⟨hn, rfl⟩
  | hit hy he hr => exact .inr ⟨_, _, _, hy, he, hr, rfl⟩
theorem samePairsH {nm : String} {a b : Addr} {xa xb : List NKE} {r : Bool} {Q : Bool → Shared → Prop} (ha : (a == sysModules) = false) (hb : (b == sysModules) = false)
    (da : s.heap.DictOfH (nestedKind prog w) a xa) (db : s.heap.DictOfH (nestedKind prog w) b xb) (hu : (nestedKind prog w).room A) (hits : xa.length = xb.length → DHit prog w A s xb xa r) (h : Q (xa.length == xb.length && r) s) :
    wpAny (model prog w) A (Builtin.Dict.samePairs nm a b) Q E s := by
  obtain ⟨oa, es, ep, hoa, _, hda, hea, hia, hna⟩ := da
  obtain ⟨ob, es', ep', hob, _, hdb, heb, hib, hnb⟩ := db
  have hla : xa.length = es.size := (size_of_entries hea).symm
  have hlb : xb.length = es'.size := (size_of_entries heb).symm
  rw [hla, hlb] at h
  unfold Builtin.Dict.samePairs Builtin.Dict.showsAll
  rw [if_neg (show ¬ (a == sysModules) = true by rw [ha]; exact Bool.false_ne_true), if_neg (show ¬ (b == sysModules) = true by rw [hb]; exact Bool.false_ne_true)]
  refine wpAny_bind (wpAny_pure (wpAny_bind (wpAny_pure ?_)))
  refine wpAny_bind (wpAny_dictEntries hoa hda ?_)
  dsimp only
  refine wpAny_bind (wpAny_dictEntries hob hdb ?_)
  by_cases hsz : es.size = es'.size
  case neg =>
    rw [if_pos (by simpa using hsz)]
    have hbf : (es.size == es'.size) = false := by simpa using hsz
    rw [hbf, Bool.false_and] at h
    exact wpAny_bind (wpAny_rule (wpAny_pure h))
  case pos =>
    have h' : Q r s := by simpa [hsz] using h
    have hits' := hits (by rw [hla, hlb]; exact hsz)
    rw [if_neg (by rw [hsz]; simp)]
    refine wpAny_bind (wpAny_dictEpoch hoa hda ?_)
    refine wpAny_bind ?_
    rw [Std.Legacy.Range.forIn_eq_forIn_range']
    simp only [Std.Legacy.Range.size, Nat.sub_zero, Nat.add_sub_cancel, Nat.div_one]
    refine wpAny_forIn_list _
      (fun rest q s' => s' = s ∧ q = (none, ()) ∧ ∃ i, rest = List.range' i (es.size - i) ∧ i ≤ es.size ∧ DHit prog w A s xb (xa.drop i) r)
      _ ?_ ?_ _ _ ⟨rfl, rfl, 0, by simp, Nat.zero_le _, hits'⟩
    · rintro x rest q s' ⟨rfl, rfl, i, hr, hi, hpre⟩
      have hlt : i < es.size := by
        rcases Nat.lt_or_ge i es.size with h | h
        · exact h
        · rw [Nat.sub_eq_zero_of_le h] at hr; simp at hr
      obtain ⟨rfl, hrest⟩ : x = i ∧ rest = List.range' (i + 1) (es.size - (i + 1)) := by
        have e : es.size - i = (es.size - (i + 1)) + 1 := by omega
        rw [e, List.range'_succ] at hr
        injection hr with h1 h2
        exact ⟨h1, h2⟩
      refine wpAny_bind (wpAny_dictEntries hoa hda ?_)
      have hlt' : x < xa.length := by rw [hla]; exact hlt
      obtain ⟨k, c, v, hkv⟩ : ∃ k c v, xa[x]? = some (k, c, v) := ⟨_, _, _, List.getElem?_eq_getElem hlt'⟩
      have hdrop : xa.drop x = (k, c, v) :: xa.drop (x + 1) := by
        rw [List.getElem?_eq_getElem hlt'] at hkv
        rw [← Option.some.inj hkv]; exact List.drop_eq_getElem_cons hlt'
      have hes : es[x]? = some ⟨(nestedKind prog w).hash k, .ref c, v⟩ := by rw [entry_at hea x, hkv]; rfl
      rw [hes]
      rw [hdrop] at hpre
      show wpAny _ _ (holding [.ref c, v] _ >>= _) _ _ _
      refine wpAny_bind (wpAny_holding (wpAny_bind (wpAny_dictFind_heap hu (hia _ (List.mem_of_getElem? hkv)) hob hdb heb hib hnb (fun hnone => ?_) fun j p hj => ?_)))
      · have hn : atKey xb k = none := atKey_none_of_get hnone
        rcases hpre.inv with ⟨_, er⟩ | ⟨p, _, _, hp, _⟩
        · rw [er] at h'
          refine wpAny_pure ?_
          show wpAny _ _ (if (!false) = true then _ else _) _ _ _
          rw [if_pos (by decide)]
          exact wpAny_pure (wpAny_pure h')
        · rw [hn] at hp; exact nomatch hp
      · have hv' : atKey xb k = some p := atKey_of_get hnb hj
        refine wpAny_bind (wpAny_dictEntries hob hdb ?_)
        have hes' : es'[j]? = some ⟨(nestedKind prog w).hash k, .ref p.1, p.2⟩ := by rw [entry_at heb j, hj]; rfl
        rw [hes']
        rcases hpre.inv with ⟨hn, _⟩ | ⟨y, e, b', hy, he, hrr, er⟩
        · rw [hv'] at hn; exact nomatch hn
        · have ey : p = y := Option.some.inj (hv'.symm.trans hy)
          rw [← ey] at he
          refine wpAny_holding (he _ _ ?_)
          cases e with
          | false =>
            rw [er, Bool.false_and] at h'
            show wpAny _ _ (if (!false) = true then _ else _) _ _ _
            rw [if_pos (by decide)]
            exact wpAny_pure (wpAny_pure h')
          | true =>
            rw [Bool.true_and] at er
            rw [← er] at hrr
            show wpAny _ _ (if (!true) = true then _ else _) _ _ _
            rw [if_neg (by decide)]
            refine wpAny_bind (wpAny_dictEpoch hoa hda ?_)
            rw [if_neg (by simp)]
            exact wpAny_pure ⟨rfl, rfl, x + 1, hrest, hlt, hrr rfl⟩
    · rintro q s' ⟨rfl, rfl, i, hr, hi, hpre⟩
      have hin : i = es.size := by
        rcases Nat.lt_or_ge i es.size with h | h
        · have e : es.size - i = (es.size - (i + 1)) + 1 := by omega
          rw [e, List.range'_succ] at hr; exact nomatch hr
        · exact Nat.le_antisymm hi h
      refine wpAny_pure ?_
      rw [hin, ← hla, List.drop_length] at hpre
      cases hpre
      exact h'
theorem eq_dictsH {a b : Addr} {xa xb : List NKE} {r : Bool} {Q : Value → Shared → Prop} (ha : (a == sysModules) = false) (hb : (b == sysModules) = false)
    (da : s.heap.DictOfH (nestedKind prog w) a xa) (db : s.heap.DictOfH (nestedKind prog w) b xb) (hu : A.units < cLine) (hr : (nestedKind prog w).room A.in1) (hits : xa.length = xb.length → DHit prog w A.in1 s xb xa r) (h : Q (.bool (xa.length == xb.length && r)) s) :
    wpAny (model prog w) A (compareOp .Eq (.ref a) (.ref b)) Q E s := by
  refine wpAny_richCompare_same_room (op := .Eq) da.typeIs db.typeIs PySem.F.slot_dict_eq (wpAny_call_entry PySem.F.slot_dict_eq da.typeIs PySem.F.entry_dict_eq ?_ (PySem.F.args_dict_eq_2 _ _)) hu
  show wpAny _ _ (Builtin.Dict.dictSlotArgs "__eq__" ⟨[.ref a, .ref b], []⟩ >>= _) _ _ s
  refine wpAny_bind ?_
  unfold Builtin.Dict.dictSlotArgs
  refine wpAny_bind (wpAny_notOrdered_dict da.typeIs ?_)
  show wpAny _ _ (pure (Value.ref a, Value.ref b)) _ _ s
  refine wpAny_pure ?_
  refine wpAny_bind (wpAny_isInstance (T := "dict") db.typeIs PySem.F.sub_dict_dict ?_)
  simp only [Bool.not_true, Bool.false_eq_true, if_false]
  refine wpAny_bind (wpAny_pure (wpAny_bind (wpAny_pure ?_)))
  refine wpAny_bind (samePairsH ha hb da db hr hits ?_)
  refine wpAny_pure ⟨_, rfl, ?_, ?_⟩
  · exact fun x => nomatch x
  · simpa using h
end
end EV
namespace EV
open L2 PySem PySem.Spec PyProof.Rows EVC
def eqDk (s : S) (kb : List (D × D)) : List (D × D) → Option Bool
  | [] => some true
  | p :: r => match dfind p.1 kb with
    | none => some false
    | some y => match toPy s 16 p.2, toPy s 16 y with
      | some d, some e => if PyData.eqv d e = true then eqDk s kb r else some false
      | _, _ => none
def eqDr (s : S) : Option Bool → R D
  | some r => .ok (.bl r) s
  | none => .no
def dEqDc (s : S) : Option Cell → Option Cell → R D
  | some (.dct ka), some (.dct kb) => if (plKs ka && plKs kb) = true then (if ka.length = kb.length then eqDr s (eqDk s kb ka) else .ok (.bl false) s) else .no
  | _, _ => .no
def dEqD : D → D → S → R D
  | .dct a, .dct b, s => dEqDc s (s.get a) (s.get b)
  | _, _, _ => .no
section
variable {X : Cx} {g : Cfg} {W : WX} {H : Hp} {ι : List Addr} {st : S} {pins : List (Addr × Obj)} {σ : L2.St} {s : Shared}
theorem eqDk_ok (I : Inv X pins σ H s) (A : At X g W) (R : RS g.K g.T H ι st) {kb : List (D × D)} {xb : List NKE} (hb : plKs kb = true) (db : DX g.K H ι kb xb) :
    ∀ {ka : List (D × D)} {xa : List NKE} {r : Bool}, DX g.K H ι ka xa → plKs ka = true → eqDk st kb ka = some r → DHit X.prog X.w X.A.in1 s xb xa r
  | [], _, _, .nil, _, e => by cases e; exact .nil
  | p :: ka, _, r, .cons (b := z) ⟨h1, h2, v, h3, h4⟩ t, hp, e => by
    unfold plKs at hp
    rw [List.all_cons, Bool.and_eq_true] at hp
    obtain ⟨f1, f2⟩ := dfind_ok hp.1 h1 hb db
    unfold eqDk at e
    cases hf : dfind p.1 kb with
    | none =>
      rw [hf] at e
      cases e
      exact .miss (f1 hf)
    | some y =>
      rw [hf] at e
      simp only at e
      obtain ⟨q, w, k1, k2, k3⟩ := f2 y hf
      cases ex : toPy st 16 p.2 with
      | none => rw [ex] at e; cases e
      | some d =>
        cases ey : toPy st 16 y with
        | none => rw [ex, ey] at e; cases e
        | some d2 =>
          rw [ex, ey] at e
          obtain ⟨as, r1⟩ := Dp.reads I d v z.2.2 (by rw [A.K]; exact toPy_dp R 16 _ _ _ h3 ex) h4
          obtain ⟨bs, r2⟩ := Dp.reads I d2 w q.2 (by rw [A.K]; exact toPy_dp R 16 _ _ _ k2 ey) k3
          have hu := A.un
          have eqp : PySem.SeqAt.EqP X.prog X.w X.A.in1 s z.2.2 q.2 (PyData.eqv d d2) := PySem.SeqAt.EqAt.eqP (PySem.W.keq_at (A := X.A) r1 r2 (toPy_shaped ex) (toPy_shaped ey) (by show X.A.units + 1 + 64 < cLine; omega))
          simp only at e
          by_cases hc : PyData.eqv d d2 = true
          · rw [if_pos hc] at e
            have ih := eqDk_ok I A R hb db t hp.2 e
            have := DHit.hit (a := z.2.1) (b := r) k1 eqp fun _ => ih
            rw [hc, Bool.true_and] at this
            exact this
          · rw [if_neg hc] at e
            cases e
            have hc : PyData.eqv d d2 = false := by simpa using hc
            rw [show (false : Bool) = (PyData.eqv d d2 && false) by rw [Bool.and_false]]
            exact .hit k1 eqp (fun z => by rw [hc] at z; cases z)
theorem dx_len {K : PySem.W.Frag} : ∀ {kvs : List (D × D)} {xs : List NKE}, DX K H ι kvs xs → xs.length = kvs.length := fun {kvs xs} h => by
  unfold DX at h
  induction h with
  | nil => rfl
  | cons _ _ ih => simp [ih]
theorem o_eqD (A : At X g W) : OpR X (compareOp .Eq) (ro g dEqD) := by
  intro pins s σ H x y v u Q I rx ry ⟨E, ι, dx, dy, st, R, qx, qy, q⟩
  unfold dEqD at q
  split at q
  · rename_i ra rb
    cases qx with
    | @dct _ a h1 =>
      cases qy with
      | @dct _ b h2 =>
        cases rx
        cases ry
        unfold dEqDc at q
        split at q
        · rename_i ka kb ea eb
          obtain ⟨hp, q⟩ := tR.ite q
          rw [Bool.and_eq_true] at hp
          obtain ⟨la, xa, _, sa, dxa, ma, _, _⟩ := dct_at I A R h1 ea
          obtain ⟨lb, xb, _, sb, dxb, mb, _, _⟩ := dct_at I A R h2 eb
          have hu := A.un
          have room : (nestedKind X.prog X.w).room X.A.in1 := by show X.A.units + 1 + 8 < cLine; omega
          by_cases hl : ka.length = kb.length
          · rw [if_pos hl] at q
            cases hr : eqDk st kb ka with
            | none => rw [hr] at q; exact q.elim
            | some r =>
              rw [hr] at q
              refine eq_dictsH (r := r) sa sb ma mb (by omega) room (fun _ => eqDk_ok I A R hp.2 dxb dxa hp.1 hr) ?_
              have e : (xa.length == xb.length) = true := by rw [dx_len dxa, dx_len dxb, hl]; simp
              rw [e, Bool.true_and]
              exact ⟨.bl r, H, I, rfl, tR.of q R (.bl _)⟩
          · rw [if_neg hl] at q
            have hne : xa.length ≠ xb.length := by rw [dx_len dxa, dx_len dxb]; exact hl
            refine eq_dictsH (r := false) sa sb ma mb (by omega) room (fun e => absurd e hne) ?_
            rw [Bool.and_false]
            exact ⟨.bl false, H, I, rfl, tR.of q R (.bl _)⟩
        · exact q.elim
  · exact q.elim
end
end EV
namespace L2
open PySem PySem.Spec PyProof.Rows
def tupG (dd : Option Addr) (sl : Array (Option Value)) (ys : Array Value) (m : Nat) : Obj := { cls := .type "tuple", dict := dd, data := .seq ys m, slots := sl }
theorem ext_meets {l b : Addr} {xs ys : Array Value} {n m : Nat} {dd : Option Addr} {sl : Array (Option Value)}
    (z0 : (!xs.isEmpty && Builtin.List.listTooLong (xs.size + ys.size)) ≠ true) (z1 : xs.size ≤ sizeLine) (z2 : xs.size + ys.size ≤ sizeLine + 1) :
    Meets (Builtin.«list.extend» ⟨[.ref l, .ref b], []⟩) (fun _ R st => st.heap.get? l = some (seqObj "list" xs n) ∧ st.heap.get? b = some (tupG dd sl ys m) ∧
      R (.ok (.ret .none)) { st with heap := st.heap.update l (Obj.mapSeq fun x => x ++ ys), toks := st.toks }) :=
  .of_wp fun prog w A R st h => by
    obtain ⟨hp, gl, dp, tk, os⟩ := st
    obtain ⟨h1, h2, h3⟩ := h
    have q1 := AutoSeq1.idx_int
    have q2 := AutoSeq1.sub_tuple_tuple
    have q3 := AutoSeq1.sub_list_list
    have q4 := AutoSeq1.sub_tuple_list
    have q5 := AutoSeq1.sub_list_tuple
    have zz : (xs ++ ys).size ≤ sizeLine + 1 := by rw [Array.size_append]; exact z2
    unfold seqObj at h1
    unfold tupG at h2
    wp_walk using (wpAny_updateSeq h1 rfl (hz := z1) (_hz' := zz)), AutoSeq1.wpAny_loadPart' h1, AutoSeq1.wpAny_loadPart' h2
    exact ⟨_, rfl, h3⟩
def rExtT (K : PySem.W.Frag) : V → List V → Hp → VK → Prop := fun x vs H Q => ∃ l b xs zs, x = .ref l ∧ vs = [.ref b] ∧ H l = some (.lst xs) ∧ SqT K H b zs ∧ xs.length + zs.length ≤ sizeLine ∧ Q .non (upd H l (.lst (xs ++ zs)))
theorem mt_extT {X : Cx} : MtM X "list.extend" (rExtT X.K) := by
  intro pins s σ H x vs v us Q I rx rv h
  obtain ⟨l, b, xs, zs, rfl, rfl, hH, hB, hz, q⟩ := h
  cases rx
  obtain ⟨u, rfl, ru⟩ := rv.one
  cases ru
  obtain ⟨z, its, n, r, hl, e⟩ := I.lstM hH
  obtain ⟨its2, r2, ⟨o, e2, hc, m, hd⟩, _⟩ := I.tuple hB
  have hl2 := r2.length
  have sz : its.toArray.size + its2.toArray.size ≤ sizeLine := by rw [List.size_toArray, List.size_toArray]; omega
  have lng : (!its.toArray.isEmpty && Builtin.List.listTooLong (its.toArray.size + its2.toArray.size)) ≠ true := by
    rw [notLongL sz, Bool.and_false]
    exact Bool.false_ne_true
  have e2' : s.heap.get? b = some (tupG o.dict o.slots its2.toArray m) := by
    rw [e2]
    obtain ⟨c, d, dt, sl⟩ := o
    cases hc
    cases hd
    rfl
  refine call_meets F.slot_list_extend ⟨_, e, rfl⟩ F.entry_list_extend (F.args_list_extend_2 _ _)
    (ext_meets (n := n) (m := m) (dd := o.dict) (sl := o.slots) lng (by rw [List.size_toArray]; omega) (by omega)) ⟨e, e2', ?_⟩
  refine ⟨.non, _, I.lset (its' := its ++ its2) hH e (by simp) (r.append r2) ?_, rfl, q⟩
  rw [List.length_append]
  omega
end L2
namespace EV
open L2 PySem PySem.Spec PyProof.Rows EVC
section
variable {g : Cfg}
def tupOf : D → Option (List D)
  | .tup l => some l
  | .tpn l => some l
  | _ => none
def fExtT (x : D) (ys : List D) (s : S) : R D := match ys with
  | [y] => (match tupOf y with
    | some m => own1 x s fun r l => if l.length + m.length ≤ 100000 then .ok .non (s.put r (.lst (l ++ m))) else .no
    | none => .no)
  | _ => .no
theorem tupOf_ok {K : PySem.W.Frag} {H : Hp} {ι : List Addr} {d : D} {v : V} {m : List D} (h : RV K H ι d v) (e : tupOf d = some m) : ∃ a zs, v = .ref a ∧ SqT K H a zs ∧ RVs K H ι m zs := by
  cases h with
  | tup h1 h2 => cases e; exact ⟨_, _, rfl, h1, h2⟩
  | tpn h1 h2 => cases e; exact ⟨_, _, rfl, h1.sq, h2⟩
  | _ => cases e
theorem extT_s {K : PySem.W.Frag} (hK : K = g.K) : MtS g (rExtT K) fExtT := by
  subst hK
  intro E dx ds x vs H ι s Q R rx rv h
  unfold fExtT at h
  split at h
  · cases rv with
    | cons r1 r2 =>
      cases r2
      split at h
      · rename_i m hm
        obtain ⟨b, zs, rfl, h1, h2⟩ := tupOf_ok r1 hm
        obtain ⟨r, a, l, xs, rfl, hi, ho, hH, hr, h3⟩ := own1_ok R rx h
        obtain ⟨hl, h4⟩ := tR.ite h3
        obtain ⟨k1, k2⟩ := put_ok R hi ho (hr.append h2)
        exact ⟨a, b, xs, zs, rfl, rfl, hH, h1, by rw [← hr.length, ← h2.length]; exact le_line hl, h4 _ _ _ k1 k2 .non⟩
      · exact h.elim
  · exact h.elim
end
end EV
namespace PB
open L2 PySem PySem.Spec PyProof.Rows
abbrev T : String := "itertools.permutations"
end PB
namespace EV
open L2 PySem PySem.Spec PyProof.Rows
end EV
namespace ZN
open L2 PySem PySem.Spec PyProof.Rows
/-- the iterators, one behind another from B on -/
def its (B n : Nat) : List Value := (List.range n).map fun j => Value.ref (B + j)
end ZN
namespace ZN
open L2 PySem PySem.Spec PyProof.Rows
/-- the zip's own objects -/
def cs (B n : Nat) : List Addr := (List.range (n + 3)).map (B + ·)
end ZN
namespace EV
open L2 PySem PySem.Spec PyProof.Rows
end EV
namespace EV
open L2 PySem PySem.Spec PyProof.Rows
end EV
namespace EVG
open L2 PySem PySem.Spec PyProof.Rows
end EVG
namespace EVG
open L2 PySem PySem.Spec PyProof.Rows
end EVG
namespace EVG
open L2 PySem PySem.Spec PyProof.Rows
end EVG
namespace EV
open L2 PySem PySem.Spec PyProof.Rows EVG
end EV
namespace EVX
open L2 PySem PySem.Spec PyProof.Rows EV
abbrev tp (i : Nat) : PySem.Stmt := PySem.Challenge.pw_everysource_k90_steady_by_hand_and_what.main.body.getD i (.Pass ⟨0, 0, 0, 0⟩)
def tbl : List Str := ["CanNot", "Unfit"]
def bs : IsT := [((("CanNot" : Str), "ValueError"), true), ((("Unfit" : Str), "ValueError"), true)]
structure Px (X : Cx) : Prop where
  hM : PxM X tbl bs
  z_CanNot : Err0 X "CanNot"
  z_Unfit : Err0 X "Unfit"
theorem Px.tr {X : Cx} (P : Px X) {pn : List (Addr × Obj)} {xe : Value → Shared → Prop} : Px (X.tr pn xe) := ⟨P.hM.tr, P.z_CanNot.tr, P.z_Unfit.tr⟩
abbrev Tp (X : Cx) : Prop := X.stack = X.env :: X.outer ∧ X.env.frame = some X.env.locals
abbrev s_lowest : PySem.Stmt := tp 7
def N_lowest : List Str := ["top", "bottom", "divisor"]
def m_lowest : MS := (sSeq (sAsg (mCall bGcd (mCons (mVar 0) (mCons (mVar 1) mNil))) (gNm 2)) (sSeq (sIf (tBl (mOp dLt (mVar 1) (mC (.int 0)))) (sAsg (mUn dNeg (mVar 2)) (gNm 2)) sNil) (sRet (mTup (mCons (mOp (intOpC divOk fun i j => .int (i.fdiv j)) (mVar 0) (mVar 2)) (mCons (mOp (intOpC divOk fun i j => .int (i.fdiv j)) (mVar 1) (mVar 2)) mNil))))))
def r_lowest : EV.Row := ⟨"lowest", s_lowest, ["top", "bottom"], N_lowest, m_lowest, (some false)⟩
theorem b_lowest {K : PySem.W.Frag} {f : Addr} {fd : FuncData} (F : Fun K "lowest" "lowest" s_lowest f fd) : Binds K fd ["top", "bottom"] [] := F.binds fun _ _ _ _ _ _ us hl => match us, hl with | [_, _], _ => rfl
abbrev s_plus : PySem.Stmt := tp 8
def N_plus : List Str := ["x", "y"]
def m_plus : MS := (sRet (mFn 0 (mCons (mOp dAdd (mOp dMulA (mOp dIxB (mVar 0) (mC (.int 0))) (mOp dIxB (mVar 1) (mC (.int 1)))) (mOp dMulA (mOp dIxB (mVar 1) (mC (.int 0))) (mOp dIxB (mVar 0) (mC (.int 1))))) (mCons (mOp dMulA (mOp dIxB (mVar 0) (mC (.int 1))) (mOp dIxB (mVar 1) (mC (.int 1)))) mNil))))
def r_plus : EV.Row := ⟨"plus", s_plus, ["x", "y"], N_plus, m_plus, (some false)⟩
theorem b_plus {K : PySem.W.Frag} {f : Addr} {fd : FuncData} (F : Fun K "plus" "plus" s_plus f fd) : Binds K fd ["x", "y"] [] := F.binds fun _ _ _ _ _ _ us hl => match us, hl with | [_, _], _ => rfl
abbrev s_less : PySem.Stmt := tp 9
def N_less : List Str := ["x", "y"]
def m_less : MS := (sRet (mFn 0 (mCons (mOp (intOp fun i j => .int (i - j)) (mOp dMulA (mOp dIxB (mVar 0) (mC (.int 0))) (mOp dIxB (mVar 1) (mC (.int 1)))) (mOp dMulA (mOp dIxB (mVar 1) (mC (.int 0))) (mOp dIxB (mVar 0) (mC (.int 1))))) (mCons (mOp dMulA (mOp dIxB (mVar 0) (mC (.int 1))) (mOp dIxB (mVar 1) (mC (.int 1)))) mNil))))
def r_less : EV.Row := ⟨"less", s_less, ["x", "y"], N_less, m_less, (some false)⟩
theorem b_less {K : PySem.W.Frag} {f : Addr} {fd : FuncData} (F : Fun K "less" "less" s_less f fd) : Binds K fd ["x", "y"] [] := F.binds fun _ _ _ _ _ _ us hl => match us, hl with | [_, _], _ => rfl
abbrev s_times : PySem.Stmt := tp 10
def N_times : List Str := ["x", "y"]
def m_times : MS := (sRet (mFn 0 (mCons (mOp dMulA (mOp dIxB (mVar 0) (mC (.int 0))) (mOp dIxB (mVar 1) (mC (.int 0)))) (mCons (mOp dMulA (mOp dIxB (mVar 0) (mC (.int 1))) (mOp dIxB (mVar 1) (mC (.int 1)))) mNil))))
def r_times : EV.Row := ⟨"times", s_times, ["x", "y"], N_times, m_times, (some false)⟩
theorem b_times {K : PySem.W.Frag} {f : Addr} {fd : FuncData} (F : Fun K "times" "times" s_times f fd) : Binds K fd ["x", "y"] [] := F.binds fun _ _ _ _ _ _ us hl => match us, hl with | [_, _], _ => rfl
abbrev s_over : PySem.Stmt := tp 11
def N_over : List Str := ["x", "y"]
def m_over : MS := (sRet (mFn 0 (mCons (mOp dMulA (mOp dIxB (mVar 0) (mC (.int 0))) (mOp dIxB (mVar 1) (mC (.int 1)))) (mCons (mOp dMulA (mOp dIxB (mVar 0) (mC (.int 1))) (mOp dIxB (mVar 1) (mC (.int 0)))) mNil))))
def r_over : EV.Row := ⟨"over", s_over, ["x", "y"], N_over, m_over, (some false)⟩
theorem b_over {K : PySem.W.Frag} {f : Addr} {fd : FuncData} (F : Fun K "over" "over" s_over f fd) : Binds K fd ["x", "y"] [] := F.binds fun _ _ _ _ _ _ us hl => match us, hl with | [_, _], _ => rfl
abbrev s_is_below : PySem.Stmt := tp 12
def N_is_below : List Str := ["x", "y"]
def m_is_below : MS := (sRet (mOp dLt (mOp dMulA (mOp dIxB (mVar 0) (mC (.int 0))) (mOp dIxB (mVar 1) (mC (.int 1)))) (mOp dMulA (mOp dIxB (mVar 1) (mC (.int 0))) (mOp dIxB (mVar 0) (mC (.int 1))))))
def r_is_below : EV.Row := ⟨"is_below", s_is_below, ["x", "y"], N_is_below, m_is_below, (some false)⟩
theorem b_is_below {K : PySem.W.Frag} {f : Addr} {fd : FuncData} (F : Fun K "is_below" "is_below" s_is_below f fd) : Binds K fd ["x", "y"] [] := F.binds fun _ _ _ _ _ _ us hl => match us, hl with | [_, _], _ => rfl
abbrev s_total : PySem.Stmt := tp 13
def N_total : List Str := ["xs", "out", "x"]
def m_total : MS := (sSeq (sAsg (mC (D.tup [(D.int 0), (D.int 1)])) (gNm 1)) (sSeq (sFor (iSeq' (mVar 0)) (gNm 2) (sAsg (mFn 1 (mCons (mVar 1) (mCons (mVar 2) mNil))) (gNm 1))) (sRet (mVar 1))))
def r_total : EV.Row := ⟨"total", s_total, ["xs"], N_total, m_total, (some false)⟩
theorem b_total {K : PySem.W.Frag} {f : Addr} {fd : FuncData} (F : Fun K "total" "total" s_total f fd) : Binds K fd ["xs"] [] := F.binds fun _ _ _ _ _ _ us hl => match us, hl with | [_], _ => rfl
abbrev s_whole_power : PySem.Stmt := tp 14
def N_whole_power : List Str := ["base", "k", "out"]
def m_whole_power : MS := (sSeq (sAsg (mC (.int 1)) (gNm 2)) (sSeq (sWhile (tBl (mOp (intOp fun i j => .bl (decide (i > j))) (mVar 1) (mC (.int 0)))) (sSeq (sIf (tTruB (mOp (intOp fun i j => .int (Builtin.bitAnd i j)) (mVar 1) (mC (.int 1)))) (sAsg (mOp dMulA (mVar 2) (mVar 0)) (gNm 2)) sNil) (sSeq (sAsg (mOp (intOpC shrOk fun i j => .int (i / 2 ^ j.toNat)) (mVar 1) (mC (.int 1))) (gNm 1)) (sIf (tBl (mOp (intOp fun i j => .bl (decide (i > j))) (mVar 1) (mC (.int 0)))) (sAsg (mOp dMulA (mVar 0) (mVar 0)) (gNm 0)) sNil)))) (sRet (mVar 2))))
def r_whole_power : EV.Row := ⟨"whole_power", s_whole_power, ["base", "k"], N_whole_power, m_whole_power, (some false)⟩
theorem b_whole_power {K : PySem.W.Frag} {f : Addr} {fd : FuncData} (F : Fun K "whole_power" "whole_power" s_whole_power f fd) : Binds K fd ["base", "k"] [] := F.binds fun _ _ _ _ _ _ us hl => match us, hl with | [_, _], _ => rfl
abbrev s_power : PySem.Stmt := tp 15
def N_power : List Str := ["x", "k"]
def m_power : MS := (sRet (mTup (mCons (mFn 7 (mCons (mOp dIxB (mVar 0) (mC (.int 0))) (mCons (mVar 1) mNil))) (mCons (mFn 7 (mCons (mOp dIxB (mVar 0) (mC (.int 1))) (mCons (mVar 1) mNil))) mNil))))
def r_power : EV.Row := ⟨"power", s_power, ["x", "k"], N_power, m_power, (some false)⟩
theorem b_power {K : PySem.W.Frag} {f : Addr} {fd : FuncData} (F : Fun K "power" "power" s_power f fd) : Binds K fd ["x", "k"] [] := F.binds fun _ _ _ _ _ _ us hl => match us, hl with | [_, _], _ => rfl
abbrev s_common_bottom : PySem.Stmt := tp 16
def N_common_bottom : List Str := ["xs", "out", "x"]
def m_common_bottom : MS := (sSeq (sAsg (mC (.int 1)) (gNm 1)) (sSeq (sFor (iSeq' (mVar 0)) (gNm 2) (sAsg (mCall bLcm (mCons (mVar 1) (mCons (mOp dIxB (mVar 2) (mC (.int 1))) mNil))) (gNm 1))) (sRet (mVar 1))))
def r_common_bottom : EV.Row := ⟨"common_bottom", s_common_bottom, ["xs"], N_common_bottom, m_common_bottom, (some false)⟩
theorem b_common_bottom {K : PySem.W.Frag} {f : Addr} {fd : FuncData} (F : Fun K "common_bottom" "common_bottom" s_common_bottom f fd) : Binds K fd ["xs"] [] := F.binds fun _ _ _ _ _ _ us hl => match us, hl with | [_], _ => rfl
abbrev s_whole : PySem.Stmt := tp 17
def N_whole : List Str := ["x", "bottom"]
def m_whole : MS := (sRet (mOp dMulA (mOp dIxB (mVar 0) (mC (.int 0))) (mOp (intOpC divOk fun i j => .int (i.fdiv j)) (mVar 1) (mOp dIxB (mVar 0) (mC (.int 1))))))
def r_whole : EV.Row := ⟨"whole", s_whole, ["x", "bottom"], N_whole, m_whole, (some false)⟩
theorem b_whole {K : PySem.W.Frag} {f : Addr} {fd : FuncData} (F : Fun K "whole" "whole" s_whole f fd) : Binds K fd ["x", "bottom"] [] := F.binds fun _ _ _ _ _ _ us hl => match us, hl with | [_, _], _ => rfl
abbrev s_sums_by_key : PySem.Stmt := tp 18
def N_sums_by_key : List Str := ["pairs", "sums", "key", "x"]
def m_sums_by_key : MS := (sSeq (sAsg mNewD (gNm 1)) (sSeq (sFor (iSeq' (mVar 0)) (gTp 2 (gsCons (gNm 2) (gsCons (gNm 3) gsNil))) (sAsg (mIf (tBl (mOp (inB false) (mVar 2) (mVar 1))) (mFn 1 (mCons (mOp dIxB (mVar 1) (mVar 2)) (mCons (mVar 3) mNil))) (mVar 3)) (gSubB (mVar 1) (mVar 2)))) (sRet (mVar 1))))
def r_sums_by_key : EV.Row := ⟨"sums_by_key", s_sums_by_key, ["pairs"], N_sums_by_key, m_sums_by_key, (some false)⟩
theorem b_sums_by_key {K : PySem.W.Frag} {f : Addr} {fd : FuncData} (F : Fun K "sums_by_key" "sums_by_key" s_sums_by_key f fd) : Binds K fd ["pairs"] [] := F.binds fun _ _ _ _ _ _ us hl => match us, hl with | [_], _ => rfl
abbrev s_primes : PySem.Stmt := tp 20
def N_primes : List Str := ["many", "found", "number", "prime"]
def m_primes : MS := (sSeq (sAsg (mLst mNil) (gNm 1)) (sSeq (sAsg (mC (.int 2)) (gNm 2)) (sSeq (sWhile (tBl (mOp dLt (mCall bLen (mCons (mVar 1) mNil)) (mVar 0))) (sSeq (sIf (tTruB (mGx true (iSeq' (mVar 1)) (gNm 3) tYesM (mOp (dEq true) (mOp (intOpC modOk fun i j => .int (i.fmod j)) (mVar 2) (mVar 3)) (mC (.int 0))) [3])) (sDrop (mMt fApp (mVar 1) (mCons (mVar 2) mNil))) sNil) (sAugI (fun i j => i + j) 2 (mC (.int 1))))) (sRet (mVar 1)))))
def r_primes : EV.Row := ⟨"primes", s_primes, ["many"], N_primes, m_primes, (some true)⟩
theorem b_primes {K : PySem.W.Frag} {f : Addr} {fd : FuncData} (F : Fun K "primes" "primes" s_primes f fd) : Binds K fd ["many"] [] := F.binds fun _ _ _ _ _ _ us hl => match us, hl with | [_], _ => rfl
abbrev s_free_rows : PySem.Stmt := tp 21
def N_free_rows : List Str := ["many", "c", "k", "numbers", "prime", "row", "x"]
def m_free_rows : MS := (sSeq (sAsg (mLc (iSeq' (mFn 12 (mCons (mOp dMulA (mVar 0) (mVar 1)) mNil))) (gNm 4) tYesM (mFn 7 (mCons (mVar 4) (mCons (mVar 2) mNil))) [4]) (gNm 3)) (sRet (mCall bTuple (mCons (mLc (iArgs rng1 (mCons (mVar 0) mNil)) (gNm 5) tYesM (mCall bTuple (mCons (mLc (iSeq' (mSl (mVar 3) (oSome (mOp dMulA (mVar 5) (mVar 1))) (oSome (mOp dAdd (mOp dMulA (mVar 5) (mVar 1)) (mVar 1))))) (gNm 6) tYesM (mTup (mCons (mVar 6) (mCons (mC (.int 1)) mNil))) [6]) mNil)) [5]) mNil))))
def r_free_rows : EV.Row := ⟨"free_rows", s_free_rows, ["many", "c", "k"], N_free_rows, m_free_rows, (some false)⟩
theorem b_free_rows {K : PySem.W.Frag} {f : Addr} {fd : FuncData} (F : Fun K "free_rows" "free_rows" s_free_rows f fd) : Binds K fd ["many", "c", "k"] [] := F.binds fun _ _ _ _ _ _ us hl => match us, hl with | [_, _, _], _ => rfl
abbrev s_monomial : PySem.Stmt := tp 23
def N_monomial : List Str := ["row", "own", "out", "x", "k"]
def m_monomial : MS := (sSeq (sAsg (mC (D.tup [(D.int 1), (D.int 1)])) (gNm 2)) (sSeq (sFor (iArgs zipA (mCons (mVar 0) (mCons (mVar 1) mNil))) (gTp 2 (gsCons (gNm 3) (gsCons (gNm 4) gsNil))) (sIf (tBl (mOp (intOp fun i j => .bl (decide (i > j))) (mVar 4) (mC (.int 0)))) (sAsg (mFn 3 (mCons (mVar 2) (mCons (mFn 8 (mCons (mVar 3) (mCons (mVar 4) mNil))) mNil))) (gNm 2)) sNil)) (sRet (mVar 2))))
def r_monomial : EV.Row := ⟨"monomial", s_monomial, ["row", "own"], N_monomial, m_monomial, (some false)⟩
theorem b_monomial {K : PySem.W.Frag} {f : Addr} {fd : FuncData} (F : Fun K "monomial" "monomial" s_monomial f fd) : Binds K fd ["row", "own"] [] := F.binds fun _ _ _ _ _ _ us hl => match us, hl with | [_, _], _ => rfl
abbrev s_value_at : PySem.Stmt := tp 24
def N_value_at : List Str := ["form", "rows", "out", "powers", "x", "row", "own"]
def m_value_at : MS := (sSeq (sAsg (mC (D.tup [(D.int 0), (D.int 1)])) (gNm 2)) (sSeq (sFor (iSeq' (mVar 0)) (gTp 2 (gsCons (gNm 3) (gsCons (gNm 4) gsNil))) (sSeq (sFor (iArgs zipA (mCons (mVar 1) (mCons (mVar 3) mNil))) (gTp 2 (gsCons (gNm 5) (gsCons (gNm 6) gsNil))) (sAsg (mFn 3 (mCons (mVar 4) (mCons (mFn 14 (mCons (mVar 5) (mCons (mVar 6) mNil))) mNil))) (gNm 4))) (sAsg (mFn 1 (mCons (mVar 2) (mCons (mVar 4) mNil))) (gNm 2)))) (sRet (mVar 2))))
def r_value_at : EV.Row := ⟨"value_at", s_value_at, ["form", "rows"], N_value_at, m_value_at, (some false)⟩
theorem b_value_at {K : PySem.W.Frag} {f : Addr} {fd : FuncData} (F : Fun K "value_at" "value_at" s_value_at f fd) : Binds K fd ["form", "rows"] [] := F.binds fun _ _ _ _ _ _ us hl => match us, hl with | [_, _], _ => rfl
abbrev s_scaled : PySem.Stmt := tp 25
def N_scaled : List Str := ["pairs", "x", "key", "y"]
def m_scaled : MS := (sSeq (sIf (tBl (mOp (dEq false) (mOp dIxB (mVar 1) (mC (.int 0))) (mC (.int 0)))) (sRet (mTup mNil)) sNil) (sRet (mCall bTuple (mCons (mLc (iSeq' (mVar 0)) (gTp 2 (gsCons (gNm 2) (gsCons (gNm 3) gsNil))) tYesM (mTup (mCons (mVar 2) (mCons (mFn 3 (mCons (mVar 3) (mCons (mVar 1) mNil))) mNil))) [2, 3]) mNil))))
def r_scaled : EV.Row := ⟨"scaled", s_scaled, ["pairs", "x"], N_scaled, m_scaled, (some false)⟩
theorem b_scaled {K : PySem.W.Frag} {f : Addr} {fd : FuncData} (F : Fun K "scaled" "scaled" s_scaled f fd) : Binds K fd ["pairs", "x"] [] := F.binds fun _ _ _ _ _ _ us hl => match us, hl with | [_, _], _ => rfl
abbrev s_placed : PySem.Stmt := tp 26
def N_placed : List Str := ["form", "ahead", "behind", "c", "none", "front", "back", "powers", "x"]
def m_placed : MS := (sSeq (sAsg (mOp dMulA (mTup (mCons (mC (.int 0)) mNil)) (mVar 3)) (gNm 4)) (sSeq (sAsg (mTup (mCons (mOp dMulA (mTup (mCons (mVar 4) mNil)) (mVar 1)) (mCons (mOp dMulA (mTup (mCons (mVar 4) mNil)) (mVar 2)) mNil))) (gTp 2 (gsCons (gNm 5) (gsCons (gNm 6) gsNil)))) (sRet (mCall bTuple (mCons (mLc (iSeq' (mVar 0)) (gTp 2 (gsCons (gNm 7) (gsCons (gNm 8) gsNil))) tYesM (mTup (mCons (mOp dAdd (mOp dAdd (mVar 5) (mVar 7)) (mVar 6)) (mCons (mVar 8) mNil))) [7, 8]) mNil)))))
def r_placed : EV.Row := ⟨"placed", s_placed, ["form", "ahead", "behind", "c"], N_placed, m_placed, (some false)⟩
theorem b_placed {K : PySem.W.Frag} {f : Addr} {fd : FuncData} (F : Fun K "placed" "placed" s_placed f fd) : Binds K fd ["form", "ahead", "behind", "c"] [] := F.binds fun _ _ _ _ _ _ us hl => match us, hl with | [_, _, _, _], _ => rfl
abbrev s_as_tuples : PySem.Stmt := tp 28
def N_as_tuples : List Str := ["value", "part"]
def m_as_tuples : MS := (sSeq (sIf (tTruB (mIsi [4, 3] (mVar 0))) (sRet (mCall bTuple (mCons (mLc (iSeq' (mVar 0)) (gNm 1) tYesM (mFn 18 (mCons (mVar 1) mNil)) [1]) mNil))) sNil) (sRet (mVar 0)))
def r_as_tuples : EV.Row := ⟨"as_tuples", s_as_tuples, ["value"], N_as_tuples, m_as_tuples, (some false)⟩
theorem b_as_tuples {K : PySem.W.Frag} {f : Addr} {fd : FuncData} (F : Fun K "as_tuples" "as_tuples" s_as_tuples f fd) : Binds K fd ["value"] [] := F.binds fun _ _ _ _ _ _ us hl => match us, hl with | [_], _ => rfl
abbrev s_is_number : PySem.Stmt := tp 29
def N_is_number : List Str := ["thing"]
def m_is_number : MS := (sRet (mAnd (mIsi [0] (mVar 0)) (mNot (mIsi [1] (mVar 0)))))
def r_is_number : EV.Row := ⟨"is_number", s_is_number, ["thing"], N_is_number, m_is_number, (some false)⟩
theorem b_is_number {K : PySem.W.Frag} {f : Addr} {fd : FuncData} (F : Fun K "is_number" "is_number" s_is_number f fd) : Binds K fd ["thing"] [] := F.binds fun _ _ _ _ _ _ us hl => match us, hl with | [_], _ => rfl
abbrev s_is_tuple_of : PySem.Stmt := tp 30
def N_is_tuple_of : List Str := ["thing", "many"]
def m_is_tuple_of : MS := (sRet (mAnd (mIsi [3] (mVar 0)) (mOp (dEq false) (mCall bLen (mCons (mVar 0) mNil)) (mVar 1))))
def r_is_tuple_of : EV.Row := ⟨"is_tuple_of", s_is_tuple_of, ["thing", "many"], N_is_tuple_of, m_is_tuple_of, (some false)⟩
theorem b_is_tuple_of {K : PySem.W.Frag} {f : Addr} {fd : FuncData} (F : Fun K "is_tuple_of" "is_tuple_of" s_is_tuple_of f fd) : Binds K fd ["thing", "many"] [] := F.binds fun _ _ _ _ _ _ us hl => match us, hl with | [_, _], _ => rfl
abbrev s_is_fraction : PySem.Stmt := tp 31
def N_is_fraction : List Str := ["thing", "top", "bottom", "part"]
def m_is_fraction : MS := (sSeq (sIf (tOrM (tNotM (tTruB (mFn 20 (mCons (mVar 0) (mCons (mC (.int 2)) mNil))))) (tNotM (tTruB (mGx true (iSeq' (mVar 0)) (gNm 3) tYesM (mFn 19 (mCons (mVar 3) mNil)) [3])))) (sRet (mC (.bl false))) sNil) (sSeq (sAsg (mVar 0) (gTp 2 (gsCons (gNm 1) (gsCons (gNm 2) gsNil)))) (sRet (mAnd (mOp (intOp fun i j => .bl (decide (i ≥ j))) (mVar 2) (mC (.int 1))) (mOp (dEq false) (mCall bGcd (mCons (mVar 1) (mCons (mVar 2) mNil))) (mC (.int 1)))))))
def r_is_fraction : EV.Row := ⟨"is_fraction", s_is_fraction, ["thing"], N_is_fraction, m_is_fraction, (some true)⟩
theorem b_is_fraction {K : PySem.W.Frag} {f : Addr} {fd : FuncData} (F : Fun K "is_fraction" "is_fraction" s_is_fraction f fd) : Binds K fd ["thing"] [] := F.binds fun _ _ _ _ _ _ us hl => match us, hl with | [_], _ => rfl
abbrev s_is_fraction_not_0 : PySem.Stmt := tp 32
def N_is_fraction_not_0 : List Str := ["thing"]
def m_is_fraction_not_0 : MS := (sRet (mAnd (mFn 21 (mCons (mVar 0) mNil)) (mOp (dEq true) (mOp dIxB (mVar 0) (mC (.int 0))) (mC (.int 0)))))
def r_is_fraction_not_0 : EV.Row := ⟨"is_fraction_not_0", s_is_fraction_not_0, ["thing"], N_is_fraction_not_0, m_is_fraction_not_0, (some false)⟩
theorem b_is_fraction_not_0 {K : PySem.W.Frag} {f : Addr} {fd : FuncData} (F : Fun K "is_fraction_not_0" "is_fraction_not_0" s_is_fraction_not_0 f fd) : Binds K fd ["thing"] [] := F.binds fun _ _ _ _ _ _ us hl => match us, hl with | [_], _ => rfl
abbrev s_rises : PySem.Stmt := tp 33
def N_rises : List Str := ["keys", "low", "high"]
def m_rises : MS := (sRet (mGx true (iArgs zipA (mCons (mVar 0) (mCons (mSl (mVar 0) (oSome (mC (.int 1))) oNone) mNil))) (gTp 2 (gsCons (gNm 1) (gsCons (gNm 2) gsNil))) tYesM (mOp dLt (mVar 1) (mVar 2)) [1, 2]))
def r_rises : EV.Row := ⟨"rises", s_rises, ["keys"], N_rises, m_rises, (some true)⟩
theorem b_rises {K : PySem.W.Frag} {f : Addr} {fd : FuncData} (F : Fun K "rises" "rises" s_rises f fd) : Binds K fd ["keys"] [] := F.binds fun _ _ _ _ _ _ us hl => match us, hl with | [_], _ => rfl
abbrev s_is_gain : PySem.Stmt := tp 35
def N_is_gain : List Str := ["thing", "letters", "width", "pairs"]
def m_is_gain : MS := (sSeq (sIf (tNotM (tTruB (mFn 20 (mCons (mVar 0) (mCons (mC (.int 3)) mNil))))) (sRet (mC (.bl false))) sNil) (sSeq (sAsg (mVar 0) (gTp 3 (gsCons (gNm 1) (gsCons (gNm 2) (gsCons (gNm 3) gsNil))))) (sSeq (sIf (tOrM (tNotM (tTruB (mFn 19 (mCons (mVar 1) mNil)))) (tOrM (tNotM (tTruB (mFn 19 (mCons (mVar 2) mNil)))) (tOrM (tBl (mOp dLt (mVar 1) (mC (.int 1)))) (tBl (mOp dLt (mVar 2) (mC (.int 1))))))) (sRet (mC (.bl false))) sNil) (sRet (mFn 25 (mCons (mVar 3) (mCons (mVar 1) (mCons (mVar 2) mNil))))))))
def r_is_gain : EV.Row := ⟨"is_gain", s_is_gain, ["thing"], N_is_gain, m_is_gain, (some false)⟩
theorem b_is_gain {K : PySem.W.Frag} {f : Addr} {fd : FuncData} (F : Fun K "is_gain" "is_gain" s_is_gain f fd) : Binds K fd ["thing"] [] := F.binds fun _ _ _ _ _ _ us hl => match us, hl with | [_], _ => rfl
abbrev s_are_held : PySem.Stmt := tp 36
def N_are_held : List Str := ["thing", "letters", "width", "pair", "word", "_"]
def m_are_held : MS := (sSeq (sIf (tOrM (tNotM (tTruB (mIsi [3] (mVar 0)))) (tNotM (tTruB (mGx true (iSeq' (mVar 0)) (gNm 3) tYesM (mFn 26 (mCons (mVar 3) (mCons (mVar 1) (mCons (mVar 2) mNil)))) [3])))) (sRet (mC (.bl false))) sNil) (sRet (mFn 23 (mCons (mLc (iSeq' (mVar 0)) (gTp 2 (gsCons (gNm 4) (gsCons (gNm 5) gsNil))) tYesM (mVar 4) [4, 5]) mNil))))
def r_are_held : EV.Row := ⟨"are_held", s_are_held, ["thing", "letters", "width"], N_are_held, m_are_held, (some true)⟩
theorem b_are_held {K : PySem.W.Frag} {f : Addr} {fd : FuncData} (F : Fun K "are_held" "are_held" s_are_held f fd) : Binds K fd ["thing", "letters", "width"] [] := F.binds fun _ _ _ _ _ _ us hl => match us, hl with | [_, _, _], _ => rfl
abbrev s_is_held : PySem.Stmt := tp 37
def N_is_held : List Str := ["thing", "letters", "width"]
def m_is_held : MS := (sSeq (sIf (tOrM (tNotM (tTruB (mFn 20 (mCons (mVar 0) (mCons (mC (.int 2)) mNil))))) (tNotM (tTruB (mFn 20 (mCons (mOp dIxB (mVar 0) (mC (.int 0))) (mCons (mVar 2) mNil)))))) (sRet (mC (.bl false))) sNil) (sRet (mAnd (mFn 27 (mCons (mOp dIxB (mVar 0) (mC (.int 0))) (mCons (mVar 1) mNil))) (mFn 22 (mCons (mOp dIxB (mVar 0) (mC (.int 1))) mNil)))))
def r_is_held : EV.Row := ⟨"is_held", s_is_held, ["thing", "letters", "width"], N_is_held, m_is_held, (some false)⟩
theorem b_is_held {K : PySem.W.Frag} {f : Addr} {fd : FuncData} (F : Fun K "is_held" "is_held" s_is_held f fd) : Binds K fd ["thing", "letters", "width"] [] := F.binds fun _ _ _ _ _ _ us hl => match us, hl with | [_, _, _], _ => rfl
abbrev s_are_letters : PySem.Stmt := tp 38
def N_are_letters : List Str := ["thing", "letters", "letter"]
def m_are_letters : MS := (sRet (mGx true (iSeq' (mVar 0)) (gNm 2) tYesM (mAnd (mFn 19 (mCons (mVar 2) mNil)) (mChain dLe dLt (mC (.int 0)) (mVar 2) (mVar 1))) [2]))
def r_are_letters : EV.Row := ⟨"are_letters", s_are_letters, ["thing", "letters"], N_are_letters, m_are_letters, (some true)⟩
theorem b_are_letters {K : PySem.W.Frag} {f : Addr} {fd : FuncData} (F : Fun K "are_letters" "are_letters" s_are_letters f fd) : Binds K fd ["thing", "letters"] [] := F.binds fun _ _ _ _ _ _ us hl => match us, hl with | [_, _], _ => rfl
abbrev s_is_stream : PySem.Stmt := tp 39
def N_is_stream : List Str := ["thing", "heads", "_", "x", "word"]
def m_is_stream : MS := (sSeq (sIf (tOrM (tNotM (tTruB (mFn 24 (mCons (mVar 0) mNil)))) (tOrM (tTruB (mGx false (iSeq' (mOp dIxB (mVar 0) (mC (.int 2)))) (gTp 2 (gsCons (gNm 2) (gsCons (gNm 3) gsNil))) tYesM (mOp dLt (mOp dIxB (mVar 3) (mC (.int 0))) (mC (.int 0))) [2, 3])) (tBl (mOp (dEq true) (mFn 6 (mCons (mLc (iSeq' (mOp dIxB (mVar 0) (mC (.int 2)))) (gTp 2 (gsCons (gNm 2) (gsCons (gNm 3) gsNil))) tYesM (mVar 3) [2, 3]) mNil)) (mC (D.tup [(D.int 1), (D.int 1)])))))) (sRet (mC (.bl false))) sNil) (sSeq (sAsg (mFn 11 (mCons (mLc (iSeq' (mOp dIxB (mVar 0) (mC (.int 2)))) (gTp 2 (gsCons (gNm 4) (gsCons (gNm 3) gsNil))) tYesM (mTup (mCons (mSl (mVar 4) oNone (oSome (mUn dNeg (mC (.int 1))))) (mCons (mVar 3) mNil))) [4, 3]) mNil)) (gNm 1)) (sRet (mOp dEqD (mVar 1) (mFn 11 (mCons (mLc (iSeq' (mOp dIxB (mVar 0) (mC (.int 2)))) (gTp 2 (gsCons (gNm 4) (gsCons (gNm 3) gsNil))) tYesM (mTup (mCons (mSl (mVar 4) (oSome (mC (.int 1))) oNone) (mCons (mVar 3) mNil))) [4, 3]) mNil))))))
def r_is_stream : EV.Row := ⟨"is_stream", s_is_stream, ["thing"], N_is_stream, m_is_stream, (some true)⟩
theorem b_is_stream {K : PySem.W.Frag} {f : Addr} {fd : FuncData} (F : Fun K "is_stream" "is_stream" s_is_stream f fd) : Binds K fd ["thing"] [] := F.binds fun _ _ _ _ _ _ us hl => match us, hl with | [_], _ => rfl
abbrev s_table_of : PySem.Stmt := tp 40
def N_table_of : List Str := ["pairs", "word", "x"]
def m_table_of : MS := (sRet (mComp (.dct []) D.dct (iSeq' (mVar 0)) (gTp 2 (gsCons (gNm 1) (gsCons (gNm 2) gsNil))) tYesM (aPutT (mVar 1) (mVar 2)) [1, 2]))
def r_table_of : EV.Row := ⟨"table_of", s_table_of, ["pairs"], N_table_of, m_table_of, (some false)⟩
theorem b_table_of {K : PySem.W.Frag} {f : Addr} {fd : FuncData} (F : Fun K "table_of" "table_of" s_table_of f fd) : Binds K fd ["pairs"] [] := F.binds fun _ _ _ _ _ _ us hl => match us, hl with | [_], _ => rfl
abbrev s_words_of : PySem.Stmt := tp 41
def N_words_of : List Str := ["letters", "width", "out", "_", "word", "letter"]
def m_words_of : MS := (sSeq (sAsg (mLst (mCons (mTup mNil) mNil)) (gNm 2)) (sSeq (sFor (iArgs rng1 (mCons (mVar 1) mNil)) (gNm 3) (sAsg (mComp (.lst []) D.lst (iSeq' (mVar 2)) (gNm 4) tYesM (aIn (iArgs rng1 (mCons (mVar 0) mNil)) (gNm 5) tYesM (aApp (mOp dAdd (mVar 4) (mTup (mCons (mVar 5) mNil)))) [5]) [4, 5]) (gNm 2))) (sRet (mVar 2))))
def r_words_of : EV.Row := ⟨"words_of", s_words_of, ["letters", "width"], N_words_of, m_words_of, (some false)⟩
theorem b_words_of {K : PySem.W.Frag} {f : Addr} {fd : FuncData} (F : Fun K "words_of" "words_of" s_words_of f fd) : Binds K fd ["letters", "width"] [] := F.binds fun _ _ _ _ _ _ us hl => match us, hl with | [_, _], _ => rfl
abbrev s_round_at : PySem.Stmt := tp 42
def N_round_at : List Str := ["ring", "place", "many", "k"]
def m_round_at : MS := (sRet (mCall bTuple (mCons (mLc (iArgs rng1 (mCons (mVar 2) mNil)) (gNm 3) tYesM (mOp dIxB (mVar 0) (mOp (intOpC modOk fun i j => .int (i.fmod j)) (mOp dAdd (mVar 1) (mVar 3)) (mCall bLen (mCons (mVar 0) mNil)))) [3]) mNil)))
def r_round_at : EV.Row := ⟨"round_at", s_round_at, ["ring", "place", "many"], N_round_at, m_round_at, (some false)⟩
theorem b_round_at {K : PySem.W.Frag} {f : Addr} {fd : FuncData} (F : Fun K "round_at" "round_at" s_round_at f fd) : Binds K fd ["ring", "place", "many"] [] := F.binds fun _ _ _ _ _ _ us hl => match us, hl with | [_, _, _], _ => rfl
abbrev s_ring_gain : PySem.Stmt := tp 43
def N_ring_gain : List Str := ["gain", "ring", "table", "_", "width", "pairs", "place"]
def m_ring_gain : MS := (sSeq (sAsg (mFn 18 (mCons (mVar 0) mNil)) (gTp 3 (gsCons (gNm 3) (gsCons (gNm 4) (gsCons (gNm 5) gsNil))))) (sSeq (sAsg (mFn 29 (mCons (mVar 5) mNil)) (gNm 2)) (sRet (mFn 6 (mCons (mLc (iArgs rng1 (mCons (mCall bLen (mCons (mVar 1) mNil)) mNil)) (gNm 6) tYesM (mGet2 (mVar 2) (mFn 31 (mCons (mVar 1) (mCons (mVar 6) (mCons (mVar 4) mNil)))) (mC (D.tup [(D.int 0), (D.int 1)]))) [6]) mNil)))))
def r_ring_gain : EV.Row := ⟨"ring_gain", s_ring_gain, ["gain", "ring"], N_ring_gain, m_ring_gain, (some false)⟩
theorem b_ring_gain {K : PySem.W.Frag} {f : Addr} {fd : FuncData} (F : Fun K "ring_gain" "ring_gain" s_ring_gain f fd) : Binds K fd ["gain", "ring"] [] := F.binds fun _ _ _ _ _ _ us hl => match us, hl with | [_, _], _ => rfl
abbrev s_step_gain : PySem.Stmt := tp 44
def N_step_gain : List Str := ["gain", "stream", "letters", "_", "pairs", "far", "width", "chances", "word", "x"]
def m_step_gain : MS := (sSeq (sAsg (mFn 18 (mCons (mVar 0) mNil)) (gTp 3 (gsCons (gNm 2) (gsCons (gNm 3) (gsCons (gNm 4) gsNil))))) (sSeq (sAsg (mFn 18 (mCons (mVar 1) mNil)) (gTp 3 (gsCons (gNm 5) (gsCons (gNm 6) (gsCons (gNm 7) gsNil))))) (sSeq (sIf (tBl (mOp (dEq true) (mVar 2) (mVar 5))) (sRaise0 "Unfit") sNil) (sRet (mFn 6 (mCons (mLc (iSeq' (mVar 4)) (gTp 2 (gsCons (gNm 8) (gsCons (gNm 9) gsNil))) tYesM (mFn 3 (mCons (mVar 9) (mCons (mFn 34 (mCons (mVar 7) (mCons (mVar 6) (mCons (mVar 8) mNil)))) mNil))) [8, 9]) mNil))))))
def r_step_gain : EV.Row := ⟨"step_gain", s_step_gain, ["gain", "stream"], N_step_gain, m_step_gain, (some false)⟩
theorem b_step_gain {K : PySem.W.Frag} {f : Addr} {fd : FuncData} (F : Fun K "step_gain" "step_gain" s_step_gain f fd) : Binds K fd ["gain", "stream"] [] := F.binds fun _ _ _ _ _ _ us hl => match us, hl with | [_, _], _ => rfl
abbrev s_word_chance : PySem.Stmt := tp 45
def N_word_chance : List Str := ["chances", "width", "word", "out", "place", "part"]
def m_word_chance : MS := (sSeq (sAsg (mFn 35 (mCons (mVar 0) (mCons (mSl (mVar 2) oNone (oSome (mVar 1))) mNil))) (gNm 3)) (sSeq (sFor (iArgs rng2 (mCons (mC (.int 1)) (mCons (mOp dAdd (mOp (intOp fun i j => .int (i - j)) (mCall bLen (mCons (mVar 2) mNil)) (mVar 1)) (mC (.int 1))) mNil))) (gNm 4) (sSeq (sIf (tBl (mOp (dEq false) (mVar 3) (mC (D.tup [(D.int 0), (D.int 1)])))) (sRet (mC (D.tup [(D.int 0), (D.int 1)]))) sNil) (sSeq (sAsg (mSl (mVar 2) (oSome (mVar 4)) (oSome (mOp dAdd (mVar 4) (mVar 1)))) (gNm 5)) (sAsg (mFn 3 (mCons (mVar 3) (mCons (mFn 4 (mCons (mFn 35 (mCons (mVar 0) (mCons (mVar 5) mNil))) (mCons (mFn 35 (mCons (mVar 0) (mCons (mSl (mVar 5) oNone (oSome (mUn dNeg (mC (.int 1))))) mNil))) mNil))) mNil))) (gNm 3))))) (sRet (mVar 3))))
def r_word_chance : EV.Row := ⟨"word_chance", s_word_chance, ["chances", "width", "word"], N_word_chance, m_word_chance, (some false)⟩
theorem b_word_chance {K : PySem.W.Frag} {f : Addr} {fd : FuncData} (F : Fun K "word_chance" "word_chance" s_word_chance f fd) : Binds K fd ["chances", "width", "word"] [] := F.binds fun _ _ _ _ _ _ us hl => match us, hl with | [_, _, _], _ => rfl
abbrev s_begun : PySem.Stmt := tp 46
def N_begun : List Str := ["chances", "word", "other", "x"]
def m_begun : MS := (sRet (mFn 6 (mCons (mLc (iSeq' (mVar 0)) (gTp 2 (gsCons (gNm 2) (gsCons (gNm 3) gsNil))) (tBl (mOp (dEq false) (mSl (mVar 2) oNone (oSome (mCall bLen (mCons (mVar 1) mNil)))) (mVar 1))) (mVar 3) [2, 3]) mNil)))
def r_begun : EV.Row := ⟨"begun", s_begun, ["chances", "word"], N_begun, m_begun, (some false)⟩
theorem b_begun {K : PySem.W.Frag} {f : Addr} {fd : FuncData} (F : Fun K "begun" "begun" s_begun f fd) : Binds K fd ["chances", "word"] [] := F.binds fun _ _ _ _ _ _ us hl => match us, hl with | [_, _], _ => rfl
abbrev s_store : PySem.Stmt := tp 47
def N_store : List Str := ["gain", "table", "out", "word", "letters", "width", "pairs", "way", "held", "place"]
def m_store : MS := (sSeq (sAsg (mFn 18 (mCons (mVar 0) mNil)) (gNm 0)) (sSeq (sAsg (mVar 0) (gTp 3 (gsCons (gNm 4) (gsCons (gNm 5) (gsCons (gNm 6) gsNil))))) (sSeq (sAsg (mFn 29 (mCons (mVar 6) mNil)) (gNm 1)) (sSeq (sAsg (mLst mNil) (gNm 2)) (sSeq (sFor (iSeq' (mFn 30 (mCons (mVar 4) (mCons (mOp (intOp fun i j => .int (i - j)) (mVar 5) (mC (.int 1))) mNil)))) (gNm 3) (sSeq (sAsg (mOp dAdd (mOp dMulA (mTup (mCons (mC (.int 0)) mNil)) (mOp (intOp fun i j => .int (i - j)) (mVar 5) (mC (.int 1)))) (mVar 3)) (gNm 7)) (sSeq (sAsg (mFn 6 (mCons (mLc (iArgs rng1 (mCons (mOp (intOp fun i j => .int (i - j)) (mVar 5) (mC (.int 1))) mNil)) (gNm 9) tYesM (mGet2 (mVar 1) (mSl (mVar 7) (oSome (mVar 9)) (oSome (mOp dAdd (mVar 9) (mVar 5)))) (mC (D.tup [(D.int 0), (D.int 1)]))) [9]) mNil)) (gNm 8)) (sIf (tBl (mOp (dEq true) (mVar 8) (mC (D.tup [(D.int 0), (D.int 1)])))) (sDrop (mMt fApp (mVar 2) (mCons (mTup (mCons (mVar 3) (mCons (mVar 8) mNil))) mNil))) sNil)))) (sSeq (sIf (tNotM (tTruB (mFn 37 (mCons (mVar 0) (mCons (mCall bTuple (mCons (mVar 2) mNil)) mNil))))) (sRaise0 "CanNot") sNil) (sRet (mCall bTuple (mCons (mVar 2) mNil)))))))))
def r_store : EV.Row := ⟨"store", s_store, ["gain"], N_store, m_store, (some false)⟩
theorem b_store {K : PySem.W.Frag} {f : Addr} {fd : FuncData} (F : Fun K "store" "store" s_store f fd) : Binds K fd ["gain"] [] := F.binds fun _ _ _ _ _ _ us hl => match us, hl with | [_], _ => rfl
abbrev s_is_store : PySem.Stmt := tp 48
def N_is_store : List Str := ["gain", "thing", "steps", "x", "before", "after"]
def m_is_store : MS := (sSeq (sAsg (mFn 38 (mCons (mVar 0) (mCons (mVar 1) mNil))) (gNm 2)) (sRet (mAnd (mOp dIsN (mVar 2) (mC .non)) (mGx true (iSeq' (mVar 2)) (gTp 3 (gsCons (gNm 3) (gsCons (gNm 4) (gsCons (gNm 5) gsNil)))) tYesM (mOp (dEq false) (mFn 2 (mCons (mVar 5) (mCons (mVar 4) mNil))) (mVar 3)) [3, 4, 5]))))
def r_is_store : EV.Row := ⟨"is_store", s_is_store, ["gain", "thing"], N_is_store, m_is_store, (some true)⟩
theorem b_is_store {K : PySem.W.Frag} {f : Addr} {fd : FuncData} (F : Fun K "is_store" "is_store" s_is_store f fd) : Binds K fd ["gain", "thing"] [] := F.binds fun _ _ _ _ _ _ us hl => match us, hl with | [_, _], _ => rfl
abbrev s_steps_by : PySem.Stmt := tp 49
def N_steps_by : List Str := ["gain", "thing", "letters", "width", "pairs", "table", "held", "word"]
def m_steps_by : MS := (sSeq (sAsg (mFn 18 (mCons (mVar 0) mNil)) (gTp 3 (gsCons (gNm 2) (gsCons (gNm 3) (gsCons (gNm 4) gsNil))))) (sSeq (sIf (tNotM (tTruB (mFn 25 (mCons (mVar 1) (mCons (mVar 2) (mCons (mOp (intOp fun i j => .int (i - j)) (mVar 3) (mC (.int 1))) mNil)))))) (sRet (mC .non)) sNil) (sSeq (sAsg (mTup (mCons (mFn 29 (mCons (mVar 4) mNil)) (mCons (mFn 29 (mCons (mVar 1) mNil)) mNil))) (gTp 2 (gsCons (gNm 5) (gsCons (gNm 6) gsNil)))) (sRet (mLc (iSeq' (mFn 30 (mCons (mVar 2) (mCons (mVar 3) mNil)))) (gNm 7) tYesM (mTup (mCons (mGet2 (mVar 5) (mVar 7) (mC (D.tup [(D.int 0), (D.int 1)]))) (mCons (mGet2 (mVar 6) (mSl (mVar 7) oNone (oSome (mUn dNeg (mC (.int 1))))) (mC (D.tup [(D.int 0), (D.int 1)]))) (mCons (mGet2 (mVar 6) (mSl (mVar 7) (oSome (mC (.int 1))) oNone) (mC (D.tup [(D.int 0), (D.int 1)]))) mNil)))) [7])))))
def r_steps_by : EV.Row := ⟨"steps_by", s_steps_by, ["gain", "thing"], N_steps_by, m_steps_by, (some false)⟩
theorem b_steps_by {K : PySem.W.Frag} {f : Addr} {fd : FuncData} (F : Fun K "steps_by" "steps_by" s_steps_by f fd) : Binds K fd ["gain", "thing"] [] := F.binds fun _ _ _ _ _ _ us hl => match us, hl with | [_, _], _ => rfl
abbrev s_gaining_ring : PySem.Stmt := tp 50
def N_gaining_ring : List Str := ["gain", "own", "letters", "width", "pairs", "ring"]
def m_gaining_ring : MS := (sSeq (sAsg (mFn 18 (mCons (mVar 0) mNil)) (gTp 3 (gsCons (gNm 2) (gsCons (gNm 3) (gsCons (gNm 4) gsNil))))) (sSeq (sFor (iSeq' (mTup (mCons (mVar 4) (mCons (mFn 16 (mCons (mVar 4) (mCons (mTup (mCons (mUn dNeg (mC (.int 1))) (mCons (mC (.int 1)) mNil))) mNil))) mNil)))) (gNm 1) (sSeq (sAsg (mFn 40 (mCons (mTup (mCons (mVar 2) (mCons (mVar 3) (mCons (mVar 1) mNil)))) mNil)) (gNm 5)) (sIf (tBl (mOp (dEq true) (mFn 32 (mCons (mVar 0) (mCons (mVar 5) mNil))) (mC (D.tup [(D.int 0), (D.int 1)])))) (sRet (mVar 5)) sNil))) (sRet (mC .non))))
def r_gaining_ring : EV.Row := ⟨"gaining_ring", s_gaining_ring, ["gain"], N_gaining_ring, m_gaining_ring, (some false)⟩
theorem b_gaining_ring {K : PySem.W.Frag} {f : Addr} {fd : FuncData} (F : Fun K "gaining_ring" "gaining_ring" s_gaining_ring f fd) : Binds K fd ["gain"] [] := F.binds fun _ _ _ _ _ _ us hl => match us, hl with | [_], _ => rfl
abbrev s_most_ring : PySem.Stmt := tp 51
def N_most_ring : List Str := ["gain", "walks", "ends", "end", "other", "words", "place", "word"]
def m_most_ring : MS := (sSeq (sAsg (mFn 18 (mCons (mVar 0) mNil)) (gNm 0)) (sSeq (sAsg (mFn 41 (mCons (mVar 0) mNil)) (gNm 1)) (sSeq (sAsg (mCall bListA (mCons (mOp dIxB (mVar 1) (mUn dNeg (mC (.int 1)))) mNil)) (gNm 2)) (sSeq (sAsg (mOp dIxB (mVar 2) (mC (.int 0))) (gNm 3)) (sSeq (sFor (iSeq' (mSl (mVar 2) (oSome (mC (.int 1))) oNone)) (gNm 4) (sIf (tTruB (mFn 5 (mCons (mFn 42 (mCons (mVar 1) (mCons (mVar 3) mNil))) (mCons (mFn 42 (mCons (mVar 1) (mCons (mVar 4) mNil))) mNil)))) (sAsg (mVar 4) (gNm 3)) sNil)) (sSeq (sPar2 5 6 (mCons (mLst mNil) (mCons (mOp (intOp fun i j => .int (i - j)) (mCall bLen (mCons (mVar 1) mNil)) (mC (.int 1))) mNil))) (sSeq (sWhile (tBl (mOp (inB true) (mVar 3) (mLc (iSeq' (mVar 5)) (gNm 7) tYesM (mSl (mVar 7) (oSome (mC (.int 1))) oNone) [7]))) (sSeq (sDrop (mMt fApp (mVar 5) (mCons (mOp dIxB (mOp dIxB (mOp dIxB (mVar 1) (mVar 6)) (mVar 3)) (mC (.int 1))) mNil))) (sSeq (sAsg (mSl (mOp dIxB (mVar 5) (mUn dNeg (mC (.int 1)))) oNone (oSome (mUn dNeg (mC (.int 1))))) (gNm 3)) (sAugI (fun i j => i - j) 6 (mC (.int 1)))))) (sSeq (sWhile (tBl (mOp (dEq true) (mSl (mOp dIxB (mVar 5) (mC (.int 0))) (oSome (mC (.int 1))) oNone) (mVar 3))) (sAsg (mSl (mVar 5) (oSome (mC (.int 1))) oNone) (gNm 5))) (sRet (mCall bTuple (mCons (mLc (iRevE (mVar 5)) (gNm 7) tYesM (mOp dIxB (mVar 7) (mC (.int 0))) [7]) mNil)))))))))))
def r_most_ring : EV.Row := ⟨"most_ring", s_most_ring, ["gain"], N_most_ring, m_most_ring, (some false)⟩
theorem b_most_ring {K : PySem.W.Frag} {f : Addr} {fd : FuncData} (F : Fun K "most_ring" "most_ring" s_most_ring f fd) : Binds K fd ["gain"] [] := F.binds fun _ _ _ _ _ _ us hl => match us, hl with | [_], _ => rfl
abbrev s_most_walks : PySem.Stmt := tp 52
def N_most_walks : List Str := ["gain", "bottom", "gains", "walks", "_", "heads", "letters", "width", "pairs", "word", "words", "later", "worth", "x", "head"]
def m_most_walks : MS := (sSeq (sAsg (mVar 0) (gTp 3 (gsCons (gNm 6) (gsCons (gNm 7) (gsCons (gNm 8) gsNil))))) (sSeq (sAsg (mFn 9 (mCons (mLc (iSeq' (mVar 8)) (gTp 2 (gsCons (gNm 4) (gsCons (gNm 13) gsNil))) tYesM (mVar 13) [4, 13]) mNil)) (gNm 1)) (sSeq (sAsg (mComp (.dct []) D.dct (iSeq' (mVar 8)) (gTp 2 (gsCons (gNm 9) (gsCons (gNm 13) gsNil))) tYesM (aPutT (mVar 9) (mFn 10 (mCons (mVar 13) (mCons (mVar 1) mNil)))) [9, 13]) (gNm 2)) (sSeq (sPar2 5 10 (mCons (mFn 30 (mCons (mVar 6) (mCons (mOp (intOp fun i j => .int (i - j)) (mVar 7) (mC (.int 1))) mNil))) (mCons (mFn 30 (mCons (mVar 6) (mCons (mVar 7) mNil))) mNil))) (sSeq (sAsg (mLst (mCons (mComp (.dct []) D.dct (iSeq' (mVar 5)) (gNm 14) tYesM (aPutT (mVar 14) (mTup (mCons (mC (.int 0)) (mCons (mC .non) mNil)))) [14]) mNil)) (gNm 3)) (sSeq (sFor (iSeq' (mVar 5)) (gNm 4) (sSeq (sAsg mNewD (gNm 11)) (sSeq (sFor (iSeq' (mVar 10)) (gNm 9) (sSeq (sAsg (mOp dAdd (mOp dIxB (mOp dIxB (mOp dIxB (mVar 3) (mUn dNeg (mC (.int 1)))) (mSl (mVar 9) oNone (oSome (mUn dNeg (mC (.int 1)))))) (mC (.int 0))) (mGet2 (mVar 2) (mVar 9) (mC (.int 0)))) (gNm 12)) (sIf (tOrM (tBl (mOp (inB true) (mSl (mVar 9) (oSome (mC (.int 1))) oNone) (mVar 11))) (tBl (mOp (intOp fun i j => .bl (decide (i > j))) (mVar 12) (mOp dIxB (mOp dIxB (mVar 11) (mSl (mVar 9) (oSome (mC (.int 1))) oNone)) (mC (.int 0)))))) (sAsg (mTup (mCons (mVar 12) (mCons (mVar 9) mNil))) (gSubB (mVar 11) (mSl (mVar 9) (oSome (mC (.int 1))) oNone))) sNil))) (sDrop (mMt fApp (mVar 3) (mCons (mVar 11) mNil)))))) (sRet (mVar 3))))))))
def r_most_walks : EV.Row := ⟨"most_walks", s_most_walks, ["gain"], N_most_walks, m_most_walks, (some false)⟩
theorem b_most_walks {K : PySem.W.Frag} {f : Addr} {fd : FuncData} (F : Fun K "most_walks" "most_walks" s_most_walks f fd) : Binds K fd ["gain"] [] := F.binds fun _ _ _ _ _ _ us hl => match us, hl with | [_], _ => rfl
abbrev s_least_rise : PySem.Stmt := tp 53
def N_least_rise : List Str := ["walks", "end", "many", "out", "k", "rise"]
def m_least_rise : MS := (sSeq (sAsg (mOp (intOp fun i j => .int (i - j)) (mCall bLen (mCons (mVar 0) mNil)) (mC (.int 1))) (gNm 2)) (sSeq (sAsg (mC .non) (gNm 3)) (sSeq (sFor (iArgs rng1 (mCons (mVar 2) mNil)) (gNm 4) (sSeq (sAsg (mFn 0 (mCons (mOp (intOp fun i j => .int (i - j)) (mOp dIxB (mOp dIxB (mOp dIxB (mVar 0) (mVar 2)) (mVar 1)) (mC (.int 0))) (mOp dIxB (mOp dIxB (mOp dIxB (mVar 0) (mVar 4)) (mVar 1)) (mC (.int 0)))) (mCons (mOp (intOp fun i j => .int (i - j)) (mVar 2) (mVar 4)) mNil))) (gNm 5)) (sIf (tOrM (tBl (mOp dIs (mVar 3) (mC .non))) (tTruB (mFn 5 (mCons (mVar 5) (mCons (mVar 3) mNil))))) (sAsg (mVar 5) (gNm 3)) sNil))) (sRet (mVar 3)))))
def r_least_rise : EV.Row := ⟨"least_rise", s_least_rise, ["walks", "end"], N_least_rise, m_least_rise, (some false)⟩
theorem b_least_rise {K : PySem.W.Frag} {f : Addr} {fd : FuncData} (F : Fun K "least_rise" "least_rise" s_least_rise f fd) : Binds K fd ["walks", "end"] [] := F.binds fun _ _ _ _ _ _ us hl => match us, hl with | [_, _], _ => rfl
abbrev s_most_step : PySem.Stmt := tp 54
def N_most_step : List Str := ["gain", "ring"]
def m_most_step : MS := (sSeq (sAsg (mFn 40 (mCons (mVar 0) mNil)) (gNm 1)) (sRet (mFn 4 (mCons (mFn 32 (mCons (mVar 0) (mCons (mVar 1) mNil))) (mCons (mTup (mCons (mCall bLen (mCons (mVar 1) mNil)) (mCons (mC (.int 1)) mNil))) mNil)))))
def r_most_step : EV.Row := ⟨"most_step", s_most_step, ["gain"], N_most_step, m_most_step, (some false)⟩
theorem b_most_step {K : PySem.W.Frag} {f : Addr} {fd : FuncData} (F : Fun K "most_step" "most_step" s_most_step f fd) : Binds K fd ["gain"] [] := F.binds fun _ _ _ _ _ _ us hl => match us, hl with | [_], _ => rfl
abbrev s_most_store : PySem.Stmt := tp 55
def N_most_store : List Str := ["gain", "bound", "bottom", "gains", "held", "_", "heads", "letters", "width", "pairs", "word", "words", "later", "worth", "x", "head"]
def m_most_store : MS := (sSeq (sPar2 0 1 (mCons (mFn 18 (mCons (mVar 0) mNil)) (mCons (mFn 18 (mCons (mVar 1) mNil)) mNil))) (sSeq (sIf (tTruB (mFn 5 (mCons (mVar 1) (mCons (mFn 43 (mCons (mVar 0) mNil)) mNil)))) (sRaise0 "CanNot") sNil) (sSeq (sAsg (mVar 0) (gTp 3 (gsCons (gNm 7) (gsCons (gNm 8) (gsCons (gNm 9) gsNil))))) (sSeq (sAsg (mFn 9 (mCons (mOp dAdd (mLc (iSeq' (mVar 9)) (gTp 2 (gsCons (gNm 5) (gsCons (gNm 14) gsNil))) tYesM (mVar 14) [5, 14]) (mLst (mCons (mVar 1) mNil))) mNil)) (gNm 2)) (sSeq (sAsg (mComp (.dct []) D.dct (iSeq' (mVar 9)) (gTp 2 (gsCons (gNm 10) (gsCons (gNm 14) gsNil))) tYesM (aPutT (mVar 10) (mFn 10 (mCons (mVar 14) (mCons (mVar 2) mNil)))) [10, 14]) (gNm 3)) (sSeq (sPar2 6 11 (mCons (mFn 30 (mCons (mVar 7) (mCons (mOp (intOp fun i j => .int (i - j)) (mVar 8) (mC (.int 1))) mNil))) (mCons (mFn 30 (mCons (mVar 7) (mCons (mVar 8) mNil))) mNil))) (sSeq (sAsg (mComp (.dct []) D.dct (iSeq' (mVar 6)) (gNm 15) tYesM (aPutT (mVar 15) (mC (.int 0))) [15]) (gNm 4)) (sSeq (sFor (iSeq' (mVar 6)) (gNm 5) (sSeq (sAsg (mComp (.dct []) D.dct (iSeq' (mVar 6)) (gNm 15) tYesM (aPutT (mVar 15) (mOp dIxB (mVar 4) (mVar 15))) [15]) (gNm 12)) (sSeq (sFor (iSeq' (mVar 11)) (gNm 10) (sSeq (sAsg (mOp (intOp fun i j => .int (i - j)) (mOp dAdd (mOp dIxB (mVar 4) (mSl (mVar 10) oNone (oSome (mUn dNeg (mC (.int 1)))))) (mGet2 (mVar 3) (mVar 10) (mC (.int 0)))) (mFn 10 (mCons (mVar 1) (mCons (mVar 2) mNil)))) (gNm 13)) (sAsg (mCall bMax2 (mCons (mOp dIxB (mVar 12) (mSl (mVar 10) (oSome (mC (.int 1))) oNone)) (mCons (mVar 13) mNil))) (gSubB (mVar 12) (mSl (mVar 10) (oSome (mC (.int 1))) oNone))))) (sAsg (mVar 12) (gNm 4))))) (sRet (mCall bTuple (mCons (mLc (iSeq' (mVar 6)) (gNm 15) (tBl (mOp (dEq true) (mOp dIxB (mVar 4) (mVar 15)) (mC (.int 0)))) (mTup (mCons (mVar 15) (mCons (mFn 0 (mCons (mOp dIxB (mVar 4) (mVar 15)) (mCons (mVar 2) mNil))) mNil))) [15]) mNil)))))))))))
def r_most_store : EV.Row := ⟨"most_store", s_most_store, ["gain", "bound"], N_most_store, m_most_store, (some false)⟩
theorem b_most_store {K : PySem.W.Frag} {f : Addr} {fd : FuncData} (F : Fun K "most_store" "most_store" s_most_store f fd) : Binds K fd ["gain", "bound"] [] := F.binds fun _ _ _ _ _ _ us hl => match us, hl with | [_, _], _ => rfl
abbrev s_is_most_store : PySem.Stmt := tp 56
def N_is_most_store : List Str := ["gain", "bound", "thing", "steps", "x", "before", "after"]
def m_is_most_store : MS := (sSeq (sAsg (mTup (mCons (mFn 38 (mCons (mVar 0) (mCons (mVar 2) mNil))) (mCons (mFn 18 (mCons (mVar 1) mNil)) mNil))) (gTp 2 (gsCons (gNm 3) (gsCons (gNm 1) gsNil)))) (sRet (mAnd (mOp dIsN (mVar 3) (mC .non)) (mNot (mGx false (iSeq' (mVar 3)) (gTp 3 (gsCons (gNm 4) (gsCons (gNm 5) (gsCons (gNm 6) gsNil)))) tYesM (mFn 5 (mCons (mFn 1 (mCons (mVar 1) (mCons (mVar 6) mNil))) (mCons (mFn 1 (mCons (mVar 4) (mCons (mVar 5) mNil))) mNil))) [4, 5, 6])))))
def r_is_most_store : EV.Row := ⟨"is_most_store", s_is_most_store, ["gain", "bound", "thing"], N_is_most_store, m_is_most_store, (some true)⟩
theorem b_is_most_store {K : PySem.W.Frag} {f : Addr} {fd : FuncData} (F : Fun K "is_most_store" "is_most_store" s_is_most_store f fd) : Binds K fd ["gain", "bound", "thing"] [] := F.binds fun _ _ _ _ _ _ us hl => match us, hl with | [_, _, _], _ => rfl
abbrev s_form_store : PySem.Stmt := tp 57
def N_form_store : List Str := ["form", "n", "c", "cores", "pairs", "core", "sums", "held", "place"]
def m_form_store : MS := (sSeq (sAsg (mFn 47 (mCons (mFn 18 (mCons (mVar 0) mNil)) mNil)) (gNm 3)) (sSeq (sIf (tBl (mOp dIsN (mFn 48 (mCons (mVar 3) mNil)) (mC .non))) (sRaise0 "CanNot") sNil) (sSeq (sAsg (mLst mNil) (gNm 4)) (sSeq (sFor (iItems (mVar 3)) (gTp 2 (gsCons (gNm 5) (gsCons (gNm 6) gsNil))) (sSeq (sAsg (mC (D.tup [(D.int 0), (D.int 1)])) (gNm 7)) (sFor (iArgs rng1 (mCons (mOp (intOp fun i j => .int (i - j)) (mVar 1) (mCall bLen (mCons (mVar 5) mNil))) mNil)) (gNm 8) (sSeq (sAsg (mFn 2 (mCons (mVar 7) (mCons (mGet2 (mVar 6) (mVar 8) (mC (D.tup [(D.int 0), (D.int 1)]))) mNil))) (gNm 7)) (sIf (tBl (mOp (dEq true) (mVar 7) (mC (D.tup [(D.int 0), (D.int 1)])))) (sDrop (mMt fExtT (mVar 4) (mCons (mFn 17 (mCons (mTup (mCons (mTup (mCons (mVar 5) (mCons (mVar 7) mNil))) mNil)) (mCons (mVar 8) (mCons (mOp (intOp fun i j => .int (i - j)) (mOp (intOp fun i j => .int (i - j)) (mOp (intOp fun i j => .int (i - j)) (mVar 1) (mC (.int 1))) (mCall bLen (mCons (mVar 5) mNil))) (mVar 8)) (mCons (mVar 2) mNil))))) mNil))) sNil))))) (sRet (mCall bTuple (mCons (mCall bSrtI (mCons (mVar 4) mNil)) mNil)))))))
def r_form_store : EV.Row := ⟨"form_store", s_form_store, ["form", "n", "c"], N_form_store, m_form_store, (some false)⟩
theorem b_form_store {K : PySem.W.Frag} {f : Addr} {fd : FuncData} (F : Fun K "form_store" "form_store" s_form_store f fd) : Binds K fd ["form", "n", "c"] [] := F.binds fun _ _ _ _ _ _ us hl => match us, hl with | [_, _, _], _ => rfl
abbrev s_cores_of : PySem.Stmt := tp 58
def N_cores_of : List Str := ["form", "cores", "powers", "x", "used", "core", "first", "behind", "sample", "own"]
def m_cores_of : MS := (sSeq (sAsg mNewD (gNm 1)) (sSeq (sFor (iSeq' (mVar 0)) (gTp 2 (gsCons (gNm 2) (gsCons (gNm 3) gsNil))) (sSeq (sAsg (mLc (iArgs enumA (mCons (mVar 2) mNil)) (gTp 2 (gsCons (gNm 8) (gsCons (gNm 9) gsNil))) (tTruB (mCall bAnyA (mCons (mVar 9) mNil))) (mVar 8) [8, 9]) (gNm 4)) (sSeq (sAsg (mIf (tTruB (mVar 4)) (mTup (mCons (mOp dIxB (mVar 4) (mC (.int 0))) (mCons (mOp dAdd (mOp dIxB (mVar 4) (mUn dNeg (mC (.int 1)))) (mC (.int 1))) mNil))) (mTup (mCons (mC (.int 0)) (mCons (mC (.int 0)) mNil)))) (gTp 2 (gsCons (gNm 6) (gsCons (gNm 7) gsNil)))) (sSeq (sAsg (mSl (mVar 2) (oSome (mVar 6)) (oSome (mVar 7))) (gNm 5)) (sSeq (sIf (tBl (mOp (inB true) (mVar 5) (mVar 1))) (sAsg mNewI (gSubB (mVar 1) (mVar 5))) sNil) (sAsg (mVar 3) (gSubB (mOp dIxB (mVar 1) (mVar 5)) (mVar 6)))))))) (sRet (mVar 1))))
def r_cores_of : EV.Row := ⟨"cores_of", s_cores_of, ["form"], N_cores_of, m_cores_of, (some false)⟩
theorem b_cores_of {K : PySem.W.Frag} {f : Addr} {fd : FuncData} (F : Fun K "cores_of" "cores_of" s_cores_of f fd) : Binds K fd ["form"] [] := F.binds fun _ _ _ _ _ _ us hl => match us, hl with | [_], _ => rfl
abbrev s_any_core : PySem.Stmt := tp 59
def N_any_core : List Str := ["cores", "core", "sums"]
def m_any_core : MS := (sSeq (sFor (iItems (mVar 0)) (gTp 2 (gsCons (gNm 1) (gsCons (gNm 2) gsNil))) (sIf (tBl (mOp (dEq true) (mFn 6 (mCons (mUn dListV (mVar 2)) mNil)) (mC (D.tup [(D.int 0), (D.int 1)])))) (sRet (mVar 1)) sNil)) (sRet (mC .non)))
def r_any_core : EV.Row := ⟨"any_core", s_any_core, ["cores"], N_any_core, m_any_core, (some false)⟩
theorem b_any_core {K : PySem.W.Frag} {f : Addr} {fd : FuncData} (F : Fun K "any_core" "any_core" s_any_core f fd) : Binds K fd ["cores"] [] := F.binds fun _ _ _ _ _ _ us hl => match us, hl with | [_], _ => rfl
abbrev s_ring_sum : PySem.Stmt := tp 60
def N_ring_sum : List Str := ["form", "n", "rows", "place"]
def m_ring_sum : MS := (sSeq (sAsg (mTup (mCons (mFn 18 (mCons (mVar 0) mNil)) (mCons (mFn 18 (mCons (mVar 2) mNil)) mNil))) (gTp 2 (gsCons (gNm 0) (gsCons (gNm 2) gsNil)))) (sRet (mFn 6 (mCons (mLc (iArgs rng1 (mCons (mCall bLen (mCons (mVar 2) mNil)) mNil)) (gNm 3) tYesM (mFn 15 (mCons (mVar 0) (mCons (mFn 31 (mCons (mVar 2) (mCons (mVar 3) (mCons (mVar 1) mNil)))) mNil))) [3]) mNil))))
def r_ring_sum : EV.Row := ⟨"ring_sum", s_ring_sum, ["form", "n", "rows"], N_ring_sum, m_ring_sum, (some false)⟩
theorem b_ring_sum {K : PySem.W.Frag} {f : Addr} {fd : FuncData} (F : Fun K "ring_sum" "ring_sum" s_ring_sum f fd) : Binds K fd ["form", "n", "rows"] [] := F.binds fun _ _ _ _ _ _ us hl => match us, hl with | [_, _, _], _ => rfl
abbrev s_form_ring : PySem.Stmt := tp 61
def N_form_ring : List Str := ["form", "n", "c", "rows", "most", "k"]
def m_form_ring : MS := (sSeq (sAsg (mFn 18 (mCons (mVar 0) mNil)) (gNm 0)) (sSeq (sIf (tBl (mOp dIs (mFn 48 (mCons (mFn 47 (mCons (mVar 0) mNil)) mNil)) (mC .non))) (sRet (mC .non)) sNil) (sSeq (sPar2 4 5 (mCons (mOp (intOp fun i j => .int (i - j)) (mOp dMulA (mC (.int 2)) (mVar 1)) (mC (.int 1))) (mCons (mC (.int 1)) mNil))) (sSeq (sAsg (mFn 13 (mCons (mC (.int 1)) (mCons (mVar 2) (mCons (mC (.int 1)) mNil)))) (gNm 3)) (sSeq (sWhile (tBl (mOp (dEq false) (mFn 49 (mCons (mVar 0) (mCons (mVar 1) (mCons (mVar 3) mNil)))) (mC (D.tup [(D.int 0), (D.int 1)])))) (sSeq (sAugI (fun i j => i + j) 5 (mC (.int 1))) (sAsg (mFn 13 (mCons (mCall bMin2 (mCons (mVar 5) (mCons (mVar 4) mNil))) (mCons (mVar 2) (mCons (mCall bMax2 (mCons (mC (.int 1)) (mCons (mOp dAdd (mOp (intOp fun i j => .int (i - j)) (mVar 5) (mVar 4)) (mC (.int 1))) mNil))) mNil)))) (gNm 3)))) (sRet (mVar 3)))))))
def r_form_ring : EV.Row := ⟨"form_ring", s_form_ring, ["form", "n", "c"], N_form_ring, m_form_ring, (some false)⟩
theorem b_form_ring {K : PySem.W.Frag} {f : Addr} {fd : FuncData} (F : Fun K "form_ring" "form_ring" s_form_ring f fd) : Binds K fd ["form", "n", "c"] [] := F.binds fun _ _ _ _ _ _ us hl => match us, hl with | [_, _, _], _ => rfl
abbrev s__law_box : PySem.Stmt := tp 63
def N__law_box : List Str := ["script", "k", "cell"]
def m__law_box : MS := (mBoxC 1315490)
def r__law_box : EV.Row := ⟨"_law_box", s__law_box, ["script", "k"], N__law_box, m__law_box, (some false)⟩
theorem b__law_box {K : PySem.W.Frag} {f : Addr} {fd : FuncData} (F : Fun K "_law_box" "_law_box" s__law_box f fd) : Binds K fd ["script", "k"] [] := F.binds fun _ _ _ _ _ _ us hl => match us, hl with | [_, _], _ => rfl
abbrev s__law_take : PySem.Stmt := tp 64
def N__law_take : List Str := ["box", "size_so", "once", "far_so", "again", "drawn_so"]
def m__law_take : MS := mTakeC
def r__law_take : EV.Row := ⟨"_law_take", s__law_take, ["box", "size_so"], N__law_take, m__law_take, (some false)⟩
theorem b__law_take {K : PySem.W.Frag} {f : Addr} {fd : FuncData} (F : Fun K "_law_take" "_law_take" s__law_take f fd) : Binds K fd ["box", "size_so"] [] := F.binds fun _ _ _ _ _ _ us hl => match us, hl with | [_, _], _ => rfl
abbrev s__law_cells : PySem.Stmt := tp 65
def N__law_cells : List Str := ["script", "top_so", "cells_so", "k", "cell", "at_so"]
def m__law_cells : MS := mCellsC
def r__law_cells : EV.Row := ⟨"_law_cells", s__law_cells, ["script", "top_so"], N__law_cells, m__law_cells, (some false)⟩
theorem b__law_cells {K : PySem.W.Frag} {f : Addr} {fd : FuncData} (F : Fun K "_law_cells" "_law_cells" s__law_cells f fd) : Binds K fd ["script", "top_so"] [] := F.binds fun _ _ _ _ _ _ us hl => match us, hl with | [_, _], _ => rfl
abbrev s__law_same : PySem.Stmt := tp 66
def N__law_same : List Str := ["got", "due", "a_so", "b_so"]
def m__law_same : MS := (sSeq (sIf (tTruB (mIsi [4, 3] (mVar 1))) (sSeq (sIf (tBl (mOp (dEq true) (mIsi [4] (mVar 0)) (mIsi [4] (mVar 1)))) (sRet (mC (.bl false))) sNil) (sSeq (sIf (tBl (mOp (dEq true) (mIsi [3] (mVar 0)) (mIsi [3] (mVar 1)))) (sRet (mC (.bl false))) sNil) (sRet (mAnd (mOp (dEq false) (mCall bLen (mCons (mVar 0) mNil)) (mCall bLen (mCons (mVar 1) mNil))) (mCall bAllA (mCons (mLc (iArgs zipA (mCons (mVar 0) (mCons (mVar 1) mNil))) (gTp 2 (gsCons (gNm 2) (gsCons (gNm 3) gsNil))) tYesM (mFn 54 (mCons (mVar 2) (mCons (mVar 3) mNil))) [2, 3]) mNil)))))) sNil) (sSeq (sIf (tOrM (tBl (mOp dIs (mVar 1) (mC .non))) (tTruB (mIsi [1, 2] (mVar 1)))) (sRet (mAnd (mOp (dEq false) (mVar 0) (mVar 1)) (mAnd (mOp (dEq false) (mIsi [1] (mVar 0)) (mIsi [1] (mVar 1))) (mOp (dEq false) (mOp dIs (mVar 0) (mC .non)) (mOp dIs (mVar 1) (mC .non)))))) sNil) (sRet (mAnd (mIsi [0] (mVar 0)) (mAnd (mNot (mIsi [1] (mVar 0))) (mOp (dEq false) (mVar 0) (mVar 1)))))))
def r__law_same : EV.Row := ⟨"_law_same", s__law_same, ["got", "due"], N__law_same, m__law_same, (some false)⟩
theorem b__law_same {K : PySem.W.Frag} {f : Addr} {fd : FuncData} (F : Fun K "_law_same" "_law_same" s__law_same f fd) : Binds K fd ["got", "due"] [] := F.binds fun _ _ _ _ _ _ us hl => match us, hl with | [_, _], _ => rfl
abbrev s__law_lists : PySem.Stmt := tp 67
def N__law_lists : List Str := ["matter", "bit"]
def m__law_lists : MS := (sRet (mIf (tTruB (mIsi [4, 3] (mVar 0))) (mLc (iSeq' (mVar 0)) (gNm 1) tYesM (mFn 55 (mCons (mVar 1) mNil)) [1]) (mVar 0)))
def r__law_lists : EV.Row := ⟨"_law_lists", s__law_lists, ["matter"], N__law_lists, m__law_lists, (some false)⟩
theorem b__law_lists {K : PySem.W.Frag} {f : Addr} {fd : FuncData} (F : Fun K "_law_lists" "_law_lists" s__law_lists f fd) : Binds K fd ["matter"] [] := F.binds fun _ _ _ _ _ _ us hl => match us, hl with | [_], _ => rfl
abbrev s__law_gcd : PySem.Stmt := tp 68
def N__law_gcd : List Str := ["one_so", "two_so"]
def m__law_gcd : MS := (sSeq (sWhile (tBl (mOp (dEq true) (mVar 1) (mC (.int 0)))) (sPar2 0 1 (mCons (mVar 1) (mCons (mOp (intOpC modOk fun i j => .int (i.fmod j)) (mCall bInt (mCons (mVar 0) mNil)) (mVar 1)) mNil)))) (sRet (mCall bAbs (mCons (mVar 0) mNil))))
def r__law_gcd : EV.Row := ⟨"_law_gcd", s__law_gcd, ["one_so", "two_so"], N__law_gcd, m__law_gcd, (some false)⟩
theorem b__law_gcd {K : PySem.W.Frag} {f : Addr} {fd : FuncData} (F : Fun K "_law_gcd" "_law_gcd" s__law_gcd f fd) : Binds K fd ["one_so", "two_so"] [] := F.binds fun _ _ _ _ _ _ us hl => match us, hl with | [_, _], _ => rfl
abbrev s__law_fr : PySem.Stmt := tp 69
def N__law_fr : List Str := ["top_so", "base_so", "deep_so"]
def m__law_fr : MS := (sSeq (sAsg (mFn 56 (mCons (mVar 0) (mCons (mVar 1) mNil))) (gNm 2)) (sRet (mTup (mCons (mOp (intOpC divOk fun i j => .int (i.fdiv j)) (mCall bInt (mCons (mVar 0) mNil)) (mVar 2)) (mCons (mOp (intOpC divOk fun i j => .int (i.fdiv j)) (mCall bInt (mCons (mVar 1) mNil)) (mVar 2)) mNil)))))
def r__law_fr : EV.Row := ⟨"_law_fr", s__law_fr, ["top_so", "base_so"], N__law_fr, m__law_fr, (some false)⟩
theorem b__law_fr {K : PySem.W.Frag} {f : Addr} {fd : FuncData} (F : Fun K "_law_fr" "_law_fr" s__law_fr f fd) : Binds K fd ["top_so", "base_so"] [] := F.binds fun _ _ _ _ _ _ us hl => match us, hl with | [_, _], _ => rfl
abbrev s__law_add : PySem.Stmt := tp 70
def N__law_add : List Str := ["one_so", "two_so"]
def m__law_add : MS := (sRet (mFn 57 (mCons (mOp dAdd (mOp dMulA (mOp dIxB (mVar 0) (mC (.int 0))) (mOp dIxB (mVar 1) (mC (.int 1)))) (mOp dMulA (mOp dIxB (mVar 1) (mC (.int 0))) (mOp dIxB (mVar 0) (mC (.int 1))))) (mCons (mOp dMulA (mOp dIxB (mVar 0) (mC (.int 1))) (mOp dIxB (mVar 1) (mC (.int 1)))) mNil))))
def r__law_add : EV.Row := ⟨"_law_add", s__law_add, ["one_so", "two_so"], N__law_add, m__law_add, (some false)⟩
theorem b__law_add {K : PySem.W.Frag} {f : Addr} {fd : FuncData} (F : Fun K "_law_add" "_law_add" s__law_add f fd) : Binds K fd ["one_so", "two_so"] [] := F.binds fun _ _ _ _ _ _ us hl => match us, hl with | [_, _], _ => rfl
abbrev s__law_mul : PySem.Stmt := tp 71
def N__law_mul : List Str := ["one_so", "two_so"]
def m__law_mul : MS := (sRet (mFn 57 (mCons (mOp dMulA (mOp dIxB (mVar 0) (mC (.int 0))) (mOp dIxB (mVar 1) (mC (.int 0)))) (mCons (mOp dMulA (mOp dIxB (mVar 0) (mC (.int 1))) (mOp dIxB (mVar 1) (mC (.int 1)))) mNil))))
def r__law_mul : EV.Row := ⟨"_law_mul", s__law_mul, ["one_so", "two_so"], N__law_mul, m__law_mul, (some false)⟩
theorem b__law_mul {K : PySem.W.Frag} {f : Addr} {fd : FuncData} (F : Fun K "_law_mul" "_law_mul" s__law_mul f fd) : Binds K fd ["one_so", "two_so"] [] := F.binds fun _ _ _ _ _ _ us hl => match us, hl with | [_, _], _ => rfl
abbrev s__law_sum : PySem.Stmt := tp 72
def N__law_sum : List Str := ["bits_so", "found", "bit"]
def m__law_sum : MS := (sSeq (sAsg (mTup (mCons (mC (.int 0)) (mCons (mC (.int 1)) mNil))) (gNm 1)) (sSeq (sFor (iSeq' (mVar 0)) (gNm 2) (sAsg (mFn 58 (mCons (mVar 1) (mCons (mVar 2) mNil))) (gNm 1))) (sRet (mVar 1))))
def r__law_sum : EV.Row := ⟨"_law_sum", s__law_sum, ["bits_so"], N__law_sum, m__law_sum, (some false)⟩
theorem b__law_sum {K : PySem.W.Frag} {f : Addr} {fd : FuncData} (F : Fun K "_law_sum" "_law_sum" s__law_sum f fd) : Binds K fd ["bits_so"] [] := F.binds fun _ _ _ _ _ _ us hl => match us, hl with | [_], _ => rfl
abbrev s__law_turned : PySem.Stmt := tp 73
def N__law_turned : List Str := ["ring_so", "wide_so", "long_so", "k"]
def m__law_turned : MS := (sSeq (sAsg (mOp dMulA (mCall bListA (mCons (mVar 0) mNil)) (mOp dAdd (mVar 1) (mC (.int 1)))) (gNm 2)) (sRet (mLc (iArgs rng1 (mCons (mCall bLen (mCons (mVar 0) mNil)) mNil)) (gNm 3) tYesM (mCall bTuple (mCons (mSl (mVar 2) (oSome (mVar 3)) (oSome (mOp dAdd (mVar 3) (mVar 1)))) mNil)) [3])))
def r__law_turned : EV.Row := ⟨"_law_turned", s__law_turned, ["ring_so", "wide_so"], N__law_turned, m__law_turned, (some false)⟩
theorem b__law_turned {K : PySem.W.Frag} {f : Addr} {fd : FuncData} (F : Fun K "_law_turned" "_law_turned" s__law_turned f fd) : Binds K fd ["ring_so", "wide_so"] [] := F.binds fun _ _ _ _ _ _ us hl => match us, hl with | [_, _], _ => rfl
abbrev s__law_gained : PySem.Stmt := tp 74
def N__law_gained : List Str := ["gain_so", "ring_so", "table_so", "own"]
def m__law_gained : MS := (sSeq (sAsg (mCall bDictT (mCons (mOp dIxB (mDn1 (mVar 0)) (mC (.int 2))) mNil)) (gNm 2)) (sRet (mFn 60 (mCons (mLc (iSeq' (mFn 61 (mCons (mVar 1) (mCons (mOp dIxB (mDn1 (mVar 0)) (mC (.int 1))) mNil)))) (gNm 3) tYesM (mGet2 (mVar 2) (mVar 3) (mTup (mCons (mC (.int 0)) (mCons (mC (.int 1)) mNil)))) [3]) mNil))))
def r__law_gained : EV.Row := ⟨"_law_gained", s__law_gained, ["gain_so", "ring_so"], N__law_gained, m__law_gained, (some false)⟩
theorem b__law_gained {K : PySem.W.Frag} {f : Addr} {fd : FuncData} (F : Fun K "_law_gained" "_law_gained" s__law_gained f fd) : Binds K fd ["gain_so", "ring_so"] [] := F.binds fun _ _ _ _ _ _ us hl => match us, hl with | [_, _], _ => rfl
abbrev s__law_is_fr : PySem.Stmt := tp 75
def N__law_is_fr : List Str := ["matter", "bit"]
def m__law_is_fr : MS := (sSeq (sIf (tOrM (tNotM (tTruB (mIsi [3] (mVar 0)))) (tBl (mOp (dEq true) (mCall bLen (mCons (mVar 0) mNil)) (mC (.int 2))))) (sRet (mC (.bl false))) sNil) (sSeq (sIf (tBl (mOp (dEq true) (mLc (iSeq' (mVar 0)) (gNm 1) (tOrM (tTruB (mIsi [1] (mVar 1))) (tNotM (tTruB (mIsi [0] (mVar 1))))) (mC (.int 1)) [1]) (mLst mNil))) (sRet (mC (.bl false))) sNil) (sRet (mAnd (mOp (intOp fun i j => .bl (decide (i > j))) (mOp dIxB (mVar 0) (mC (.int 1))) (mC (.int 0))) (mOp (dEq false) (mFn 56 (mCons (mOp dIxB (mVar 0) (mC (.int 0))) (mCons (mOp dIxB (mVar 0) (mC (.int 1))) mNil))) (mC (.int 1)))))))
def r__law_is_fr : EV.Row := ⟨"_law_is_fr", s__law_is_fr, ["matter"], N__law_is_fr, m__law_is_fr, (some false)⟩
theorem b__law_is_fr {K : PySem.W.Frag} {f : Addr} {fd : FuncData} (F : Fun K "_law_is_fr" "_law_is_fr" s__law_is_fr f fd) : Binds K fd ["matter"] [] := F.binds fun _ _ _ _ _ _ us hl => match us, hl with | [_], _ => rfl
abbrev s__law_is_ring : PySem.Stmt := tp 76
def N__law_is_ring : List Str := ["matter", "letters_so", "bit"]
def m__law_is_ring : MS := (sSeq (sIf (tOrM (tNotM (tTruB (mIsi [3] (mVar 0)))) (tBl (mOp (dEq false) (mVar 0) (mTup mNil)))) (sRet (mC (.bl false))) sNil) (sRet (mOp (dEq false) (mLc (iSeq' (mVar 0)) (gNm 2) (tOrM (tTruB (mIsi [1] (mVar 2))) (tOrM (tNotM (tTruB (mIsi [0] (mVar 2)))) (tNotM (tBl (mChain dLe dLt (mC (.int 0)) (mVar 2) (mVar 1)))))) (mC (.int 1)) [2]) (mLst mNil))))
def r__law_is_ring : EV.Row := ⟨"_law_is_ring", s__law_is_ring, ["matter", "letters_so"], N__law_is_ring, m__law_is_ring, (some false)⟩
theorem b__law_is_ring {K : PySem.W.Frag} {f : Addr} {fd : FuncData} (F : Fun K "_law_is_ring" "_law_is_ring" s__law_is_ring f fd) : Binds K fd ["matter", "letters_so"] [] := F.binds fun _ _ _ _ _ _ us hl => match us, hl with | [_, _], _ => rfl
abbrev s__law_value : PySem.Stmt := tp 77
def N__law_value : List Str := ["form_so", "rows_so", "found", "powers_so", "part_so", "own", "row_so", "much_so", "x_so", "lap"]
def m__law_value : MS := (sSeq (sAsg (mTup (mCons (mC (.int 0)) (mCons (mC (.int 1)) mNil))) (gNm 2)) (sSeq (sFor (iSeq' (mVar 0)) (gTp 2 (gsCons (gNm 3) (gsCons (gNm 4) gsNil))) (sSeq (sFor (iArgs zipA (mCons (mVar 3) (mCons (mVar 1) mNil))) (gTp 2 (gsCons (gNm 5) (gsCons (gNm 6) gsNil))) (sFor (iArgs zipA (mCons (mVar 5) (mCons (mVar 6) mNil))) (gTp 2 (gsCons (gNm 7) (gsCons (gNm 8) gsNil))) (sFor (iArgs rng1 (mCons (mVar 7) mNil)) (gNm 9) (sAsg (mFn 59 (mCons (mVar 4) (mCons (mVar 8) mNil))) (gNm 4))))) (sAsg (mFn 58 (mCons (mVar 2) (mCons (mVar 4) mNil))) (gNm 2)))) (sRet (mVar 2))))
def r__law_value : EV.Row := ⟨"_law_value", s__law_value, ["form_so", "rows_so"], N__law_value, m__law_value, (some false)⟩
theorem b__law_value {K : PySem.W.Frag} {f : Addr} {fd : FuncData} (F : Fun K "_law_value" "_law_value" s__law_value f fd) : Binds K fd ["form_so", "rows_so"] [] := F.binds fun _ _ _ _ _ _ us hl => match us, hl with | [_, _], _ => rfl
abbrev s__law_round : PySem.Stmt := tp 78
def N__law_round : List Str := ["form_so", "n_so", "rows_so", "own"]
def m__law_round : MS := (sRet (mFn 60 (mCons (mLc (iSeq' (mFn 61 (mCons (mVar 2) (mCons (mVar 1) mNil)))) (gNm 3) tYesM (mFn 65 (mCons (mVar 0) (mCons (mVar 3) mNil))) [3]) mNil)))
def r__law_round : EV.Row := ⟨"_law_round", s__law_round, ["form_so", "n_so", "rows_so"], N__law_round, m__law_round, (some false)⟩
theorem b__law_round {K : PySem.W.Frag} {f : Addr} {fd : FuncData} (F : Fun K "_law_round" "_law_round" s__law_round f fd) : Binds K fd ["form_so", "n_so", "rows_so"] [] := F.binds fun _ _ _ _ _ _ us hl => match us, hl with | [_, _, _], _ => rfl
abbrev s__law_are_rows : PySem.Stmt := tp 79
def N__law_are_rows : List Str := ["matter", "c_so", "bit", "x_so"]
def m__law_are_rows : MS := (sSeq (sIf (tOrM (tNotM (tTruB (mIsi [3] (mVar 0)))) (tBl (mOp (dEq false) (mVar 0) (mTup mNil)))) (sRet (mC (.bl false))) sNil) (sSeq (sFor (iSeq' (mVar 0)) (gNm 2) (sIf (tOrM (tNotM (tTruB (mIsi [3] (mVar 2)))) (tOrM (tBl (mOp (dEq true) (mCall bLen (mCons (mVar 2) mNil)) (mVar 1))) (tBl (mOp (dEq true) (mLc (iSeq' (mVar 2)) (gNm 3) (tNotM (tTruB (mFn 63 (mCons (mVar 3) mNil)))) (mC (.int 1)) [3]) (mLst mNil))))) (sRet (mC (.bl false))) sNil)) (sRet (mC (.bl true)))))
def r__law_are_rows : EV.Row := ⟨"_law_are_rows", s__law_are_rows, ["matter", "c_so"], N__law_are_rows, m__law_are_rows, (some false)⟩
theorem b__law_are_rows {K : PySem.W.Frag} {f : Addr} {fd : FuncData} (F : Fun K "_law_are_rows" "_law_are_rows" s__law_are_rows f fd) : Binds K fd ["matter", "c_so"] [] := F.binds fun _ _ _ _ _ _ us hl => match us, hl with | [_, _], _ => rfl
abbrev s__law_names : PySem.Stmt := tp 80
def N__law_names : List Str := ["three_so", "rise_so", "turn_so", "deep_so", "flat_so"]
def m__law_names : MS := (sSeq (sAsg (mTup (mCons (mTpn (mCons (mC (.int 2)) (mCons (mC (.int 2)) (mCons (mTpn (mCons (mTup (mCons (mTup (mCons (mC (.int 0)) (mCons (mC (.int 1)) mNil))) (mCons (mTup (mCons (mC (.int 1)) (mCons (mC (.int 1)) mNil))) mNil))) mNil)) mNil)))) (mCons (mTpn (mCons (mC (.int 2)) (mCons (mC (.int 2)) (mCons (mTpn (mCons (mTup (mCons (mTup (mCons (mC (.int 0)) (mCons (mC (.int 1)) mNil))) (mCons (mTup (mCons (mC (.int 1)) (mCons (mC (.int 1)) mNil))) mNil))) (mCons (mTup (mCons (mTup (mCons (mC (.int 1)) (mCons (mC (.int 0)) mNil))) (mCons (mTup (mCons (mUn dNeg (mC (.int 1))) (mCons (mC (.int 1)) mNil))) mNil))) mNil))) mNil)))) mNil))) (gTp 2 (gsCons (gNm 1) (gsCons (gNm 2) gsNil)))) (sSeq (sAsg (mTup (mCons (mTpn (mCons (mC (.int 2)) (mCons (mC (.int 3)) (mCons (mTpn (mCons (mTup (mCons (mTup (mCons (mC (.int 0)) (mCons (mC (.int 1)) (mCons (mC (.int 0)) mNil)))) (mCons (mTup (mCons (mC (.int 1)) (mCons (mC (.int 2)) mNil))) mNil))) mNil)) mNil)))) (mCons (mTpn (mCons (mC (.int 2)) (mCons (mC (.int 1)) (mCons (mTpn (mCons (mTup (mCons (mTup (mCons (mC (.int 1)) mNil)) (mCons (mTup (mCons (mC (.int 3)) (mCons (mC (.int 1)) mNil))) mNil))) mNil)) mNil)))) mNil))) (gTp 2 (gsCons (gNm 3) (gsCons (gNm 4) gsNil)))) (sSeq (sAsg (mTpn (mCons (mC (.int 3)) (mCons (mC (.int 2)) (mCons (mTpn (mCons (mTup (mCons (mTup (mCons (mC (.int 0)) (mCons (mC (.int 1)) mNil))) (mCons (mTup (mCons (mC (.int 2)) (mCons (mC (.int 1)) mNil))) mNil))) (mCons (mTup (mCons (mTup (mCons (mC (.int 1)) (mCons (mC (.int 0)) mNil))) (mCons (mTup (mCons (mUn dNeg (mC (.int 1))) (mCons (mC (.int 1)) mNil))) mNil))) (mCons (mTup (mCons (mTup (mCons (mC (.int 1)) (mCons (mC (.int 1)) mNil))) (mCons (mTup (mCons (mC (.int 1)) (mCons (mC (.int 2)) mNil))) mNil))) (mCons (mTup (mCons (mTup (mCons (mC (.int 1)) (mCons (mC (.int 2)) mNil))) (mCons (mTup (mCons (mC (.int 2)) (mCons (mC (.int 1)) mNil))) mNil))) (mCons (mTup (mCons (mTup (mCons (mC (.int 2)) (mCons (mC (.int 0)) mNil))) (mCons (mTup (mCons (mUn dNeg (mC (.int 1))) (mCons (mC (.int 1)) mNil))) mNil))) (mCons (mTup (mCons (mTup (mCons (mC (.int 2)) (mCons (mC (.int 1)) mNil))) (mCons (mTup (mCons (mUn dNeg (mC (.int 1))) (mCons (mC (.int 1)) mNil))) mNil))) mNil))))))) mNil)))) (gNm 0)) (sRet (mTup (mCons (mVar 1) (mCons (mVar 2) (mCons (mVar 3) (mCons (mVar 4) (mCons (mVar 0) mNil))))))))))
def r__law_names : EV.Row := ⟨"_law_names", s__law_names, [], N__law_names, m__law_names, (some false)⟩
theorem b__law_names {K : PySem.W.Frag} {f : Addr} {fd : FuncData} (F : Fun K "_law_names" "_law_names" s__law_names f fd) : Binds K fd [] [] := F.binds fun _ _ _ _ _ _ us hl => match us, hl with | [], _ => rfl
abbrev s__law_heard : PySem.Stmt := tp 81
def N__law_heard : List Str := ["door_so", "gain_so", "own", "error_so", "caught", "told_so"]
def m__law_heard : MS := (sSeq (sAsg (mTup (mCons (mC .non) (mCons (mC .non) mNil))) (gTp 2 (gsCons (gNm 4) (gsCons (gNm 5) gsNil)))) (sSeq (sTry tbl (sIf (tBl (mOp (dEq false) (mVar 0) (mC (.int 0)))) (sAsg (mFn 36 (mCons (mVar 1) mNil)) (gNm 5)) (sIf (tBl (mOp (dEq false) (mVar 0) (mC (.int 1)))) (sAsg (mFn 44 (mCons (mVar 1) (mCons (mVar 2) mNil))) (gNm 5)) (sIf (tBl (mOp (dEq false) (mVar 0) (mC (.int 2)))) (sAsg (mFn 46 (mCons (mVar 1) (mCons (mVar 2) (mCons (mC (.int 1)) mNil)))) (gNm 5)) (sAsg (mFn 33 (mCons (mVar 1) (mCons (mVar 2) mNil))) (gNm 5))))) [⟨"CanNot", hL bs 4 3 [.s "can not", .isi "ValueError"]⟩, ⟨"Unfit", hL bs 4 3 [.s "unfit", .isi "ValueError"]⟩]) (sRet (mIf (tBl (mOp dIs (mVar 4) (mC .non))) (mVar 5) (mVar 4)))))
def r__law_heard : EV.Row := ⟨"_law_heard", s__law_heard, ["door_so", "gain_so", "own"], N__law_heard, m__law_heard, (some false)⟩
theorem b__law_heard {K : PySem.W.Frag} {f : Addr} {fd : FuncData} (F : Fun K "_law_heard" "_law_heard" s__law_heard f fd) : Binds K fd ["door_so", "gain_so", "own"] [] := F.binds fun _ _ _ _ _ _ us hl => match us, hl with | [_, _, _], _ => rfl
abbrev s__law_things_right : PySem.Stmt := tp 82
def N__law_things_right : List Str := ["good_so", "odd_so", "bad_so", "got", "due", "half_so", "one_so", "own"]
def ms__law_things_right : MS := (sSeq (sAsg (mTup (mCons (mTup (mCons (mC (.int 1)) (mCons (mC (.int 2)) mNil))) (mCons (mTup (mCons (mC (.int 1)) (mCons (mC (.int 1)) mNil))) mNil))) (gTp 2 (gsCons (gNm 5) (gsCons (gNm 6) gsNil)))) (sSeq (sAsg (mLst (mCons (mTup (mCons (mC (.int 2)) (mCons (mC (.int 2)) (mCons (mTup mNil) mNil)))) (mCons (mTup (mCons (mC (.int 1)) (mCons (mC (.int 1)) (mCons (mTup (mCons (mTup (mCons (mTup (mCons (mC (.int 0)) mNil)) (mCons (mVar 6) mNil))) mNil)) mNil)))) (mCons (mTup (mCons (mC (.int 2)) (mCons (mC (.int 1)) (mCons (mTup (mCons (mTup (mCons (mTup (mCons (mC (.int 0)) mNil)) (mCons (mVar 5) mNil))) (mCons (mTup (mCons (mTup (mCons (mC (.int 1)) mNil)) (mCons (mVar 5) mNil))) mNil))) mNil)))) (mCons (mTup (mCons (mC (.int 3)) (mCons (mC (.int 2)) (mCons (mTup (mCons (mTup (mCons (mTup (mCons (mC (.int 0)) (mCons (mC (.int 1)) mNil))) (mCons (mVar 5) mNil))) (mCons (mTup (mCons (mTup (mCons (mC (.int 1)) (mCons (mC (.int 0)) mNil))) (mCons (mVar 5) mNil))) mNil))) mNil)))) mNil))))) (gNm 0)) (sSeq (sAsg (mOp dAdd (mVar 0) (mLst (mCons (mTup (mCons (mC (.int 1)) (mCons (mC (.int 100)) (mCons (mTup (mCons (mTup (mCons (mOp dMulA (mTup (mCons (mC (.int 0)) mNil)) (mC (.int 100))) (mCons (mVar 6) mNil))) mNil)) mNil)))) (mCons (mTup (mCons (mC (.int 2)) (mCons (mC (.int 2)) (mCons (mTup (mCons (mTup (mCons (mTup (mCons (mC (.int 0)) (mCons (mC (.int 0)) mNil))) (mCons (mTup (mCons (mUn dNeg (mC (.int 1))) (mCons (mC (.int 2)) mNil))) mNil))) (mCons (mTup (mCons (mTup (mCons (mC (.int 0)) (mCons (mC (.int 1)) mNil))) (mCons (mTup (mCons (mC (.int 3)) (mCons (mC (.int 2)) mNil))) mNil))) mNil))) mNil)))) mNil)))) (gNm 0)) (sSeq (sAsg (mLst (mCons (mTup (mCons (mC (.int 2)) (mCons (mC (.int 2)) (mCons (mTup (mCons (mTup (mCons (mTup (mCons (mC (.int 0)) (mCons (mC (.int 1)) mNil))) (mCons (mVar 6) mNil))) mNil)) mNil)))) (mCons (mTup (mCons (mC (.int 2)) (mCons (mC (.int 2)) (mCons (mTup (mCons (mTup (mCons (mTup (mCons (mC (.int 0)) (mCons (mC (.int 1)) mNil))) (mCons (mVar 5) mNil))) (mCons (mTup (mCons (mTup (mCons (mC (.int 1)) (mCons (mC (.int 1)) mNil))) (mCons (mVar 5) mNil))) mNil))) mNil)))) (mCons (mTup (mCons (mC (.int 2)) (mCons (mC (.int 1)) (mCons (mTup (mCons (mTup (mCons (mTup (mCons (mC (.int 0)) mNil)) (mCons (mVar 5) mNil))) (mCons (mTup (mCons (mTup (mCons (mC (.int 1)) mNil)) (mCons (mTup (mCons (mC (.int 1)) (mCons (mC (.int 3)) mNil))) mNil))) mNil))) mNil)))) mNil)))) (gNm 1)) (sSeq (sAsg (mOp dAdd (mVar 1) (mLst (mCons (mTup (mCons (mC (.int 2)) (mCons (mC (.int 1)) (mCons (mTup (mCons (mTup (mCons (mTup (mCons (mC (.int 0)) mNil)) (mCons (mTup (mCons (mC (.int 3)) (mCons (mC (.int 2)) mNil))) mNil))) (mCons (mTup (mCons (mTup (mCons (mC (.int 1)) mNil)) (mCons (mTup (mCons (mUn dNeg (mC (.int 1))) (mCons (mC (.int 2)) mNil))) mNil))) mNil))) mNil)))) (mCons (mTup (mCons (mC (.int 2)) (mCons (mC (.int 3)) (mCons (mTup (mCons (mTup (mCons (mTup (mCons (mC (.int 0)) (mCons (mC (.int 0)) (mCons (mC (.int 1)) mNil)))) (mCons (mVar 5) mNil))) (mCons (mTup (mCons (mTup (mCons (mC (.int 0)) (mCons (mC (.int 1)) (mCons (mC (.int 0)) mNil)))) (mCons (mVar 5) mNil))) mNil))) mNil)))) mNil)))) (gNm 1)) (sSeq (sAsg (mLst (mCons (mC .non) (mCons (mC (.int 7)) (mCons (mTup mNil) (mCons (mTup (mCons (mC (.int 2)) (mCons (mC (.int 2)) mNil))) (mCons (mTup (mCons (mC (.int 2)) (mCons (mC (.int 2)) (mCons (mTup mNil) (mCons (mTup mNil) mNil))))) (mCons (mLst (mCons (mC (.int 2)) (mCons (mC (.int 2)) (mCons (mTup mNil) mNil)))) (mCons (mTup (mCons (mC (.int 2)) (mCons (mC (.int 2)) (mCons (mLst mNil) mNil)))) (mCons (mTup (mCons (mC (.int 0)) (mCons (mC (.int 2)) (mCons (mTup mNil) mNil)))) (mCons (mTup (mCons (mC (.int 2)) (mCons (mC (.int 0)) (mCons (mTup mNil) mNil)))) (mCons (mTup (mCons (mC (.bl true)) (mCons (mC (.int 2)) (mCons (mTup mNil) mNil)))) (mCons (mTup (mCons (mC (.int 2)) (mCons (mUn dNeg (mC (.int 1))) (mCons (mTup mNil) mNil)))) (mCons (mTup (mCons (mC (.str "2")) (mCons (mC (.int 2)) (mCons (mTup mNil) mNil)))) mNil))))))))))))) (gNm 2)) (sSeq (sAsg (mOp dAdd (mVar 2) (mLst (mCons (mTup (mCons (mC (.int 2)) (mCons (mC (.int 2)) (mCons (mTup (mCons (mTup (mCons (mTup (mCons (mC (.int 0)) (mCons (mC (.int 1)) mNil))) (mCons (mTup (mCons (mC (.int 0)) (mCons (mC (.int 1)) mNil))) mNil))) mNil)) mNil)))) (mCons (mTup (mCons (mC (.int 2)) (mCons (mC (.int 2)) (mCons (mTup (mCons (mTup (mCons (mTup (mCons (mC (.int 0)) (mCons (mC (.int 2)) mNil))) (mCons (mVar 6) mNil))) mNil)) mNil)))) (mCons (mTup (mCons (mC (.int 2)) (mCons (mC (.int 2)) (mCons (mTup (mCons (mTup (mCons (mTup (mCons (mC (.int 0)) mNil)) (mCons (mVar 6) mNil))) mNil)) mNil)))) (mCons (mTup (mCons (mC (.int 2)) (mCons (mC (.int 2)) (mCons (mTup (mCons (mTup (mCons (mLst (mCons (mC (.int 0)) (mCons (mC (.int 1)) mNil))) (mCons (mVar 6) mNil))) mNil)) mNil)))) mNil)))))) (gNm 2)) (sSeq (sAsg (mOp dAdd (mVar 2) (mLst (mCons (mTup (mCons (mC (.int 2)) (mCons (mC (.int 2)) (mCons (mTup (mCons (mTup (mCons (mTup (mCons (mC (.int 0)) (mCons (mC (.int 1)) mNil))) (mCons (mTup (mCons (mC (.int 2)) (mCons (mC (.int 2)) mNil))) mNil))) mNil)) mNil)))) (mCons (mTup (mCons (mC (.int 2)) (mCons (mC (.int 2)) (mCons (mTup (mCons (mTup (mCons (mTup (mCons (mC (.int 1)) (mCons (mC (.int 0)) mNil))) (mCons (mVar 6) mNil))) (mCons (mTup (mCons (mTup (mCons (mC (.int 0)) (mCons (mC (.int 1)) mNil))) (mCons (mVar 6) mNil))) mNil))) mNil)))) (mCons (mTup (mCons (mC (.int 2)) (mCons (mC (.int 1)) (mCons (mTup (mCons (mTup (mCons (mTup (mCons (mC (.int 0)) mNil)) (mCons (mVar 5) mNil))) (mCons (mTup (mCons (mTup (mCons (mC (.int 0)) mNil)) (mCons (mVar 5) mNil))) mNil))) mNil)))) mNil))))) (gNm 2)) (sSeq (sAsg (mOp dAdd (mVar 2) (mLst (mCons (mTup (mCons (mC (.int 2)) (mCons (mC (.int 1)) (mCons (mTup (mCons (mTup (mCons (mTup (mCons (mC (.bl false)) mNil)) (mCons (mVar 6) mNil))) mNil)) mNil)))) (mCons (mTup (mCons (mC (.int 2)) (mCons (mC (.int 1)) (mCons (mTup (mCons (mTup (mCons (mTup (mCons (mUn dNeg (mC (.int 1))) mNil)) (mCons (mVar 6) mNil))) mNil)) mNil)))) (mCons (mTup (mCons (mC (.int 2)) (mCons (mC (.int 1)) (mCons (mTup (mCons (mTup (mCons (mTup (mCons (mC (.int 0)) mNil)) (mCons (mC (.int 1)) mNil))) mNil)) mNil)))) (mCons (mTup (mCons (mC (.int 2)) (mCons (mC (.int 1)) (mCons (mTup (mCons (mTup (mCons (mTup (mCons (mC (.int 0)) mNil)) (mCons (mVar 6) (mCons (mC (.int 0)) mNil)))) mNil)) mNil)))) (mCons (mTup (mCons (mC (.int 2)) (mCons (mC (.int 1)) (mCons (mC .non) mNil)))) mNil))))))) (gNm 2)) (sSeq (sAsg (mLst (mCons (mLc (iSeq' (mOp dAdd (mVar 0) (mVar 1))) (gNm 7) tYesM (mFn 24 (mCons (mVar 7) mNil)) [7]) (mCons (mLc (iSeq' (mVar 2)) (gNm 7) tYesM (mFnK 24 1 [0] (mCons (mVar 7) mNil)) [7]) mNil))) (gNm 3)) (sSeq (sAsg (mOp dAdd (mVar 3) (mLst (mCons (mLc (iSeq' (mVar 0)) (gNm 7) tYesM (mFn 28 (mCons (mVar 7) mNil)) [7]) (mCons (mLc (iSeq' (mVar 1)) (gNm 7) tYesM (mFn 28 (mCons (mVar 7) mNil)) [7]) (mCons (mLc (iSeq' (mVar 2)) (gNm 7) tYesM (mFnK 28 1 [0] (mCons (mVar 7) mNil)) [7]) mNil))))) (gNm 3)) (sSeq (sAsg (mLst (mCons (mOp dMulA (mLst (mCons (mC (.bl true)) mNil)) (mC (.int 11))) (mCons (mOp dMulA (mLst (mCons (mC (.bl false)) mNil)) (mC (.int 24))) (mCons (mLst (mCons (mC (.bl false)) (mCons (mC (.bl true)) (mCons (mC (.bl true)) (mCons (mC (.bl true)) (mCons (mC (.bl true)) (mCons (mC (.bl false)) mNil))))))) (mCons (mOp dMulA (mLst (mCons (mC (.bl false)) mNil)) (mC (.int 5))) (mCons (mOp dMulA (mLst (mCons (mC (.bl false)) mNil)) (mC (.int 24))) mNil)))))) (gNm 4)) (sRet (mFn 54 (mCons (mVar 3) (mCons (mVar 4) mNil))))))))))))))))
def m__law_things_right : MS := (mTrueC ms__law_things_right)
def r__law_things_right : EV.Row := ⟨"_law_things_right", s__law_things_right, [], N__law_things_right, m__law_things_right, (some false)⟩
theorem b__law_things_right {K : PySem.W.Frag} {f : Addr} {fd : FuncData} (F : Fun K "_law_things_right" "_law_things_right" s__law_things_right f fd) : Binds K fd [] [] := F.binds fun _ _ _ _ _ _ us hl => match us, hl with | [], _ => rfl
abbrev s__law_rings_right : PySem.Stmt := tp 83
def N__law_rings_right : List Str := ["got", "slow_so", "due", "rise_so", "turn_so", "deep_so", "flat_so", "three_so", "even_so", "to_so", "own", "far"]
def ms__law_rings_right : MS := (sSeq (sAsg (mFn 68 mNil) (gTp 5 (gsCons (gNm 3) (gsCons (gNm 4) (gsCons (gNm 5) (gsCons (gNm 6) (gsCons (gNm 7) gsNil))))))) (sSeq (sAsg (mLc (iSeq' (mTup (mCons (mTup (mCons (mC (.int 1)) (mCons (mC (.int 0)) mNil))) (mCons (mTup (mCons (mC (.int 0)) mNil)) (mCons (mTup (mCons (mC (.int 0)) (mCons (mC (.int 1)) (mCons (mC (.int 1)) mNil)))) (mCons (mTup (mCons (mC (.int 0)) (mCons (mC (.int 1)) (mCons (mC (.int 0)) (mCons (mC (.int 1)) mNil))))) mNil)))))) (gNm 10) tYesM (mFn 32 (mCons (mDn (mVar 3)) (mCons (mVar 10) mNil))) [10]) (gNm 0)) (sSeq (sAsg (mOp dAdd (mVar 0) (mLst (mCons (mFn 32 (mCons (mDn (mVar 5)) (mCons (mTup (mCons (mC (.int 0)) (mCons (mC (.int 1)) mNil))) mNil))) (mCons (mFn 32 (mCons (mDn (mVar 5)) (mCons (mTup (mCons (mC (.int 0)) mNil)) mNil))) (mCons (mFn 32 (mCons (mDn (mVar 6)) (mCons (mTup (mCons (mC (.int 1)) (mCons (mC (.int 1)) (mCons (mC (.int 0)) mNil)))) mNil))) (mCons (mFnK 32 2 [1, 0] (mCons (mLst (mCons (mC (.int 0)) (mCons (mC (.int 1)) (mCons (mC (.int 2)) mNil)))) (mCons (mFn 55 (mCons (mDn (mVar 7)) mNil)) mNil))) mNil)))))) (gNm 0)) (sSeq (sIf (tNotM (tTruB (mFn 54 (mCons (mVar 0) (mCons (mLst (mCons (mTup (mCons (mC (.int 1)) (mCons (mC (.int 1)) mNil))) (mCons (mTup (mCons (mC (.int 0)) (mCons (mC (.int 1)) mNil))) (mCons (mTup (mCons (mC (.int 1)) (mCons (mC (.int 1)) mNil))) (mCons (mTup (mCons (mC (.int 2)) (mCons (mC (.int 1)) mNil))) (mCons (mTup (mCons (mC (.int 1)) (mCons (mC (.int 2)) mNil))) (mCons (mTup (mCons (mC (.int 0)) (mCons (mC (.int 1)) mNil))) (mCons (mTup (mCons (mC (.int 6)) (mCons (mC (.int 1)) mNil))) (mCons (mTup (mCons (mC (.int 3)) (mCons (mC (.int 1)) mNil))) mNil))))))))) mNil))))) (sRet (mC (.bl false))) sNil) (sSeq (sAsg (mTup (mCons (mTup (mCons (mC (.int 2)) (mCons (mC (.int 1)) (mCons (mTup (mCons (mTup (mCons (mTup (mCons (mC (.int 0)) mNil)) (mCons (mTup (mCons (mC (.int 1)) (mCons (mC (.int 2)) mNil))) mNil))) (mCons (mTup (mCons (mTup (mCons (mC (.int 1)) mNil)) (mCons (mTup (mCons (mC (.int 1)) (mCons (mC (.int 2)) mNil))) mNil))) mNil))) mNil)))) (mCons (mTup (mCons (mC (.int 2)) (mCons (mC (.int 2)) (mCons (mTup (mCons (mTup (mCons (mTup (mCons (mC (.int 0)) (mCons (mC (.int 1)) mNil))) (mCons (mTup (mCons (mC (.int 1)) (mCons (mC (.int 2)) mNil))) mNil))) (mCons (mTup (mCons (mTup (mCons (mC (.int 1)) (mCons (mC (.int 0)) mNil))) (mCons (mTup (mCons (mC (.int 1)) (mCons (mC (.int 2)) mNil))) mNil))) mNil))) mNil)))) mNil))) (gTp 2 (gsCons (gNm 8) (gsCons (gNm 9) gsNil)))) (sSeq (sAsg (mTup (mCons (mC (.int 2)) (mCons (mC (.int 2)) (mCons (mTup (mCons (mTup (mCons (mTup (mCons (mC (.int 0)) (mCons (mC (.int 0)) mNil))) (mCons (mTup (mCons (mC (.int 3)) (mCons (mC (.int 8)) mNil))) mNil))) (mCons (mTup (mCons (mTup (mCons (mC (.int 0)) (mCons (mC (.int 1)) mNil))) (mCons (mTup (mCons (mC (.int 1)) (mCons (mC (.int 8)) mNil))) mNil))) (mCons (mTup (mCons (mTup (mCons (mC (.int 1)) (mCons (mC (.int 0)) mNil))) (mCons (mTup (mCons (mC (.int 1)) (mCons (mC (.int 8)) mNil))) mNil))) (mCons (mTup (mCons (mTup (mCons (mC (.int 1)) (mCons (mC (.int 1)) mNil))) (mCons (mTup (mCons (mC (.int 3)) (mCons (mC (.int 8)) mNil))) mNil))) mNil))))) mNil)))) (gNm 1)) (sSeq (sAsg (mLc (iSeq' (mTup (mCons (mVar 8) (mCons (mVar 9) (mCons (mVar 1) mNil))))) (gNm 11) tYesM (mLc (iSeq' (mTup (mCons (mDn (mVar 3)) (mCons (mDn (mVar 5)) (mCons (mDn (mVar 6)) mNil))))) (gNm 10) tYesM (mFn 33 (mCons (mVar 10) (mCons (mVar 11) mNil))) [10]) [11]) (gNm 0)) (sSeq (sAsg (mLst (mCons (mLst (mCons (mTup (mCons (mC (.int 1)) (mCons (mC (.int 4)) mNil))) (mCons (mTup (mCons (mC (.int 1)) (mCons (mC (.int 16)) mNil))) (mCons (mTup (mCons (mC (.int 3)) (mCons (mC (.int 2)) mNil))) mNil)))) (mCons (mLst (mCons (mTup (mCons (mC (.int 1)) (mCons (mC (.int 2)) mNil))) (mCons (mTup (mCons (mC (.int 1)) (mCons (mC (.int 4)) mNil))) (mCons (mTup (mCons (mC (.int 3)) (mCons (mC (.int 2)) mNil))) mNil)))) (mCons (mLst (mCons (mTup (mCons (mC (.int 1)) (mCons (mC (.int 8)) mNil))) (mCons (mTup (mCons (mC (.int 1)) (mCons (mC (.int 64)) mNil))) (mCons (mTup (mCons (mC (.int 3)) (mCons (mC (.int 2)) mNil))) mNil)))) mNil)))) (gNm 2)) (sSeq (sAsg (mOp dAdd (mVar 0) (mLst (mCons (mFn 69 (mCons (mC (.int 3)) (mCons (mDn (mVar 3)) (mCons (mTup (mCons (mC (.int 3)) (mCons (mC (.int 1)) (mCons (mTup (mCons (mTup (mCons (mTup (mCons (mC (.int 0)) mNil)) (mCons (mTup (mCons (mC (.int 1)) (mCons (mC (.int 1)) mNil))) mNil))) mNil)) mNil)))) mNil)))) (mCons (mFnK 33 2 [1, 0] (mCons (mFn 55 (mCons (mVar 1) mNil)) (mCons (mFn 55 (mCons (mDn (mVar 4)) mNil)) mNil))) (mCons (mFn 33 (mCons (mTup (mCons (mC (.int 2)) (mCons (mC (.int 2)) (mCons (mTup mNil) mNil)))) (mCons (mVar 9) mNil))) mNil))))) (gNm 0)) (sRet (mFn 54 (mCons (mVar 0) (mCons (mOp dAdd (mVar 2) (mLst (mCons (mLst (mCons (mC (.str "unfit")) (mCons (mC (.bl true)) mNil))) (mCons (mTup (mCons (mC (.int 0)) (mCons (mC (.int 1)) mNil))) (mCons (mTup (mCons (mC (.int 0)) (mCons (mC (.int 1)) mNil))) mNil))))) mNil)))))))))))))
def m__law_rings_right : MS := (mTrueC ms__law_rings_right)
def r__law_rings_right : EV.Row := ⟨"_law_rings_right", s__law_rings_right, [], N__law_rings_right, m__law_rings_right, (some false)⟩
theorem b__law_rings_right {K : PySem.W.Frag} {f : Addr} {fd : FuncData} (F : Fun K "_law_rings_right" "_law_rings_right" s__law_rings_right f fd) : Binds K fd [] [] := F.binds fun _ _ _ _ _ _ us hl => match us, hl with | [], _ => rfl
abbrev s__law_stores_right : PySem.Stmt := tp 84
def N__law_stores_right : List Str := ["wide_so", "held_so", "got", "due", "more_so", "things_so", "wheel_so", "own", "rise_so", "turn_so", "deep_so", "flat_so", "three_so", "told_so"]
def ms__law_stores_right : MS := (sSeq (sAsg (mFn 68 mNil) (gTp 5 (gsCons (gNm 8) (gsCons (gNm 9) (gsCons (gNm 10) (gsCons (gNm 11) (gsCons (gNm 12) gsNil))))))) (sSeq (sAsg (mTup (mCons (mC (.int 2)) (mCons (mC (.int 3)) (mCons (mTup (mCons (mTup (mCons (mTup (mCons (mC (.int 0)) (mCons (mC (.int 0)) (mCons (mC (.int 1)) mNil)))) (mCons (mTup (mCons (mC (.int 2)) (mCons (mC (.int 1)) mNil))) mNil))) (mCons (mTup (mCons (mTup (mCons (mC (.int 0)) (mCons (mC (.int 1)) (mCons (mC (.int 0)) mNil)))) (mCons (mTup (mCons (mUn dNeg (mC (.int 2))) (mCons (mC (.int 1)) mNil))) mNil))) (mCons (mTup (mCons (mTup (mCons (mC (.int 0)) (mCons (mC (.int 1)) (mCons (mC (.int 1)) mNil)))) (mCons (mTup (mCons (mUn dNeg (mC (.int 5))) (mCons (mC (.int 2)) mNil))) mNil))) (mCons (mTup (mCons (mTup (mCons (mC (.int 1)) (mCons (mC (.int 0)) (mCons (mC (.int 1)) mNil)))) (mCons (mTup (mCons (mC (.int 2)) (mCons (mC (.int 1)) mNil))) mNil))) (mCons (mTup (mCons (mTup (mCons (mC (.int 1)) (mCons (mC (.int 1)) (mCons (mC (.int 0)) mNil)))) (mCons (mTup (mCons (mC (.int 1)) (mCons (mC (.int 2)) mNil))) mNil))) mNil)))))) mNil)))) (gNm 0)) (sSeq (sAsg (mTup (mCons (mTup (mCons (mTup (mCons (mC (.int 0)) (mCons (mC (.int 1)) mNil))) (mCons (mTup (mCons (mC (.int 2)) (mCons (mC (.int 1)) mNil))) mNil))) (mCons (mTup (mCons (mTup (mCons (mC (.int 1)) (mCons (mC (.int 1)) mNil))) (mCons (mTup (mCons (mUn dNeg (mC (.int 1))) (mCons (mC (.int 2)) mNil))) mNil))) mNil))) (gNm 1)) (sSeq (sAsg (mLc (iSeq' (mTup (mCons (mDn (mVar 9)) (mCons (mTup (mCons (mC (.int 2)) (mCons (mC (.int 1)) (mCons (mTup mNil) mNil)))) (mCons (mDn (mVar 11)) (mCons (mDn (mVar 8)) (mCons (mVar 0) (mCons (mTup (mCons (mC (.int 3)) (mCons (mC (.int 2)) (mCons (mTup mNil) mNil)))) (mCons (mFn 55 (mCons (mVar 0) mNil)) (mCons (mTup (mCons (mC (.int 1)) (mCons (mC (.int 2)) (mCons (mTup (mCons (mTup (mCons (mTup (mCons (mC (.int 0)) (mCons (mC (.int 0)) mNil))) (mCons (mTup (mCons (mC (.int 1)) (mCons (mC (.int 1)) mNil))) mNil))) mNil)) mNil)))) mNil)))))))))) (gNm 7) tYesM (mFn 69 (mCons (mC (.int 0)) (mCons (mDn (mVar 7)) (mCons (mC .non) mNil)))) [7]) (gNm 2)) (sSeq (sAsg (mLst (mCons (mTup (mCons (mTup (mCons (mTup (mCons (mC (.int 1)) mNil)) (mCons (mTup (mCons (mC (.int 1)) (mCons (mC (.int 1)) mNil))) mNil))) mNil)) (mCons (mTup mNil) (mCons (mLst (mCons (mC (.str "can not")) (mCons (mC (.bl true)) mNil))) (mCons (mLst (mCons (mC (.str "can not")) (mCons (mC (.bl true)) mNil))) (mCons (mVar 1) (mCons (mTup mNil) (mCons (mVar 1) (mCons (mLst (mCons (mC (.str "can not")) (mCons (mC (.bl true)) mNil))) mNil))))))))) (gNm 3)) (sSeq (sIf (tNotM (tTruB (mFn 54 (mCons (mVar 2) (mCons (mVar 3) mNil))))) (sRet (mC (.bl false))) sNil) (sSeq (sAsg (mTup (mCons (mTup (mCons (mTup (mCons (mC (.int 0)) (mCons (mC (.int 0)) mNil))) (mCons (mTup (mCons (mC (.int 1)) (mCons (mC (.int 1)) mNil))) mNil))) (mCons (mTup (mCons (mTup (mCons (mC (.int 0)) (mCons (mC (.int 1)) mNil))) (mCons (mTup (mCons (mC (.int 3)) (mCons (mC (.int 1)) mNil))) mNil))) (mCons (mTup (mCons (mTup (mCons (mC (.int 1)) (mCons (mC (.int 0)) mNil))) (mCons (mTup (mCons (mC (.int 1)) (mCons (mC (.int 1)) mNil))) mNil))) (mCons (mTup (mCons (mTup (mCons (mC (.int 1)) (mCons (mC (.int 1)) mNil))) (mCons (mTup (mCons (mC (.int 1)) (mCons (mC (.int 2)) mNil))) mNil))) mNil))))) (gNm 4)) (sSeq (sAsg (mLst (mCons (mVar 1) (mCons (mVar 4) (mCons (mSl (mVar 1) oNone (oSome (mC (.int 1)))) (mCons (mRevS (mVar 1) (oSome (mUn dNeg (mC (.int 1))))) (mCons (mCall bListA (mCons (mVar 1) mNil)) (mCons (mTup mNil) (mCons (mC .non) (mCons (mTup (mCons (mTup (mCons (mTup (mCons (mC (.int 0)) (mCons (mC (.int 1)) mNil))) (mCons (mTup (mCons (mC (.int 2)) (mCons (mC (.int 1)) mNil))) (mCons (mC (.int 0)) mNil)))) mNil)) (mCons (mTup (mCons (mTup (mCons (mTup (mCons (mC (.int 0)) (mCons (mC (.int 1)) mNil))) (mCons (mTup (mCons (mC (.int 4)) (mCons (mC (.int 2)) mNil))) mNil))) (mCons (mOp dIxB (mVar 1) (mC (.int 1))) mNil))) (mCons (mTup (mCons (mTup (mCons (mTup (mCons (mC (.int 0)) mNil)) (mCons (mTup (mCons (mC (.int 2)) (mCons (mC (.int 1)) mNil))) mNil))) mNil)) mNil))))))))))) (gNm 5)) (sSeq (sAsg (mLst (mCons (mLc (iSeq' (mVar 5)) (gNm 7) tYesM (mFn 37 (mCons (mVar 0) (mCons (mDn (mVar 7)) mNil))) [7]) (mCons (mFn 37 (mCons (mTup (mCons (mC (.int 2)) (mCons (mC (.int 2)) (mCons (mTup mNil) mNil)))) (mCons (mTup (mCons (mTup (mCons (mTup (mCons (mC (.int 1)) mNil)) (mCons (mTup (mCons (mC (.int 1)) (mCons (mC (.int 1)) mNil))) mNil))) mNil)) mNil))) (mCons (mFnK 37 2 [1, 0] (mCons (mTup (mCons (mTup (mCons (mTup (mCons (mC (.int 0)) mNil)) (mCons (mTup (mCons (mC (.int 5)) (mCons (mC (.int 1)) mNil))) mNil))) (mCons (mTup (mCons (mTup (mCons (mC (.int 1)) mNil)) (mCons (mTup (mCons (mC (.int 5)) (mCons (mC (.int 1)) mNil))) mNil))) mNil))) (mCons (mLst (mCons (mC (.int 2)) (mCons (mC (.int 2)) (mCons (mLst mNil) mNil)))) mNil))) mNil)))) (gNm 2)) (sSeq (sAsg (mOp dAdd (mVar 2) (mLst (mCons (mFn 37 (mCons (mTup (mCons (mC (.int 2)) (mCons (mC (.int 1)) (mCons (mTup mNil) mNil)))) (mCons (mTup (mCons (mTup (mCons (mTup mNil) (mCons (mTup (mCons (mC (.int 3)) (mCons (mC (.int 1)) mNil))) mNil))) mNil)) mNil))) (mCons (mFn 37 (mCons (mTup (mCons (mC (.int 2)) (mCons (mC (.int 1)) (mCons (mTup mNil) mNil)))) (mCons (mTup (mCons (mTup (mCons (mTup (mCons (mC (.int 0)) mNil)) (mCons (mTup (mCons (mC (.int 3)) (mCons (mC (.int 1)) mNil))) mNil))) mNil)) mNil))) (mCons (mFn 37 (mCons (mDn (mVar 8)) (mCons (mTup mNil) mNil))) mNil))))) (gNm 2)) (sSeq (sAsg (mLst (mCons (mOp dAdd (mLst (mCons (mC (.bl true)) (mCons (mC (.bl true)) mNil))) (mOp dMulA (mLst (mCons (mC (.bl false)) mNil)) (mC (.int 8)))) (mCons (mC (.bl false)) (mCons (mC (.bl true)) (mCons (mC (.bl true)) (mCons (mC (.bl false)) (mCons (mC (.bl false)) mNil))))))) (gNm 3)) (sSeq (sAsg (mTpn (mCons (mC (.int 3)) (mCons (mC (.int 2)) (mCons (mTpn (mCons (mTup (mCons (mTup (mCons (mC (.int 0)) (mCons (mC (.int 1)) mNil))) (mCons (mTup (mCons (mC (.int 1)) (mCons (mC (.int 1)) mNil))) mNil))) (mCons (mTup (mCons (mTup (mCons (mC (.int 0)) (mCons (mC (.int 2)) mNil))) (mCons (mTup (mCons (mUn dNeg (mC (.int 1))) (mCons (mC (.int 1)) mNil))) mNil))) (mCons (mTup (mCons (mTup (mCons (mC (.int 1)) (mCons (mC (.int 0)) mNil))) (mCons (mTup (mCons (mUn dNeg (mC (.int 1))) (mCons (mC (.int 1)) mNil))) mNil))) (mCons (mTup (mCons (mTup (mCons (mC (.int 1)) (mCons (mC (.int 2)) mNil))) (mCons (mTup (mCons (mC (.int 1)) (mCons (mC (.int 1)) mNil))) mNil))) (mCons (mTup (mCons (mTup (mCons (mC (.int 2)) (mCons (mC (.int 0)) mNil))) (mCons (mTup (mCons (mC (.int 1)) (mCons (mC (.int 1)) mNil))) mNil))) (mCons (mTup (mCons (mTup (mCons (mC (.int 2)) (mCons (mC (.int 1)) mNil))) (mCons (mTup (mCons (mUn dNeg (mC (.int 1))) (mCons (mC (.int 1)) mNil))) mNil))) mNil))))))) mNil)))) (gNm 6)) (sSeq (sAsg (mOp dAdd (mVar 2) (mLst (mCons (mFn 39 (mCons (mDn (mVar 9)) mNil)) (mCons (mFnK 39 1 [0] (mCons (mFn 55 (mCons (mVar 0) mNil)) mNil)) (mCons (mFn 39 (mCons (mTup (mCons (mC (.int 2)) (mCons (mC (.int 1)) (mCons (mTup mNil) mNil)))) mNil)) (mCons (mFn 64 (mCons (mFn 39 (mCons (mDn (mVar 6)) mNil)) (mCons (mC (.int 3)) mNil))) mNil)))))) (gNm 2)) (sSeq (sIf (tNotM (tTruB (mFn 54 (mCons (mVar 2) (mCons (mOp dAdd (mVar 3) (mLst (mCons (mC .non) (mCons (mC .non) (mCons (mC .non) (mCons (mC (.bl true)) mNil)))))) mNil))))) (sRet (mC (.bl false))) sNil) (sSeq (sFor (iSeq' (mTup (mCons (mVar 6) (mCons (mVar 8) (mCons (mVar 11) (mCons (mVar 12) mNil)))))) (gNm 7) (sSeq (sAsg (mFn 39 (mCons (mDn (mVar 7)) mNil)) (gNm 13)) (sIf (tOrM (tNotM (tTruB (mFn 64 (mCons (mVar 13) (mCons (mOp dIxB (mDn (mVar 7)) (mC (.int 0))) mNil))))) (tBl (mOp (dEq false) (mOp dIxB (mFn 62 (mCons (mVar 7) (mCons (mVar 13) mNil))) (mC (.int 0))) (mC (.int 0))))) (sRet (mC (.bl false))) sNil))) (sRet (mC (.bl true))))))))))))))))))
def m__law_stores_right : MS := (mTrueC ms__law_stores_right)
def r__law_stores_right : EV.Row := ⟨"_law_stores_right", s__law_stores_right, [], N__law_stores_right, m__law_stores_right, (some false)⟩
theorem b__law_stores_right {K : PySem.W.Frag} {f : Addr} {fd : FuncData} (F : Fun K "_law_stores_right" "_law_stores_right" s__law_stores_right f fd) : Binds K fd [] [] := F.binds fun _ _ _ _ _ _ us hl => match us, hl with | [], _ => rfl
abbrev s__law_most_right : PySem.Stmt := tp 85
def N__law_most_right : List Str := ["low_so", "got", "due", "ring_so", "things_so", "rise_so", "turn_so", "deep_so", "flat_so", "three_so", "own"]
def ms__law_most_right : MS := (sSeq (sAsg (mFn 68 mNil) (gTp 5 (gsCons (gNm 5) (gsCons (gNm 6) (gsCons (gNm 7) (gsCons (gNm 8) (gsCons (gNm 9) gsNil))))))) (sSeq (sAsg (mTup (mCons (mC (.int 1)) (mCons (mC (.int 2)) (mCons (mTup (mCons (mTup (mCons (mTup (mCons (mC (.int 0)) (mCons (mC (.int 0)) mNil))) (mCons (mTup (mCons (mUn dNeg (mC (.int 3))) (mCons (mC (.int 2)) mNil))) mNil))) mNil)) mNil)))) (gNm 0)) (sSeq (sAsg (mOp dAdd (mLc (iSeq' (mTup (mCons (mDn (mVar 9)) (mCons (mDn (mVar 5)) (mCons (mDn (mVar 6)) (mCons (mDn (mVar 8)) (mCons (mVar 0) (mCons (mTup (mCons (mC (.int 2)) (mCons (mC (.int 2)) (mCons (mTup mNil) mNil)))) (mCons (mDn (mVar 7)) mNil))))))))) (gNm 10) tYesM (mFn 43 (mCons (mVar 10) mNil)) [10]) (mLst (mCons (mFnK 43 1 [0] (mCons (mFn 55 (mCons (mDn (mVar 9)) mNil)) mNil)) mNil))) (gNm 1)) (sSeq (sAsg (mLst (mCons (mTup (mCons (mC (.int 1)) (mCons (mC (.int 1)) mNil))) (mCons (mTup (mCons (mC (.int 1)) (mCons (mC (.int 2)) mNil))) (mCons (mTup (mCons (mC (.int 0)) (mCons (mC (.int 1)) mNil))) (mCons (mTup (mCons (mC (.int 3)) (mCons (mC (.int 1)) mNil))) (mCons (mTup (mCons (mUn dNeg (mC (.int 3))) (mCons (mC (.int 2)) mNil))) (mCons (mTup (mCons (mC (.int 0)) (mCons (mC (.int 1)) mNil))) (mCons (mTup (mCons (mC (.int 1)) (mCons (mC (.int 4)) mNil))) (mCons (mTup (mCons (mC (.int 1)) (mCons (mC (.int 1)) mNil))) mNil))))))))) (gNm 2)) (sSeq (sIf (tNotM (tTruB (mFn 54 (mCons (mVar 1) (mCons (mVar 2) mNil))))) (sRet (mC (.bl false))) sNil) (sSeq (sAsg (mFnK 40 1 [0] (mCons (mFn 55 (mCons (mDn (mVar 9)) mNil)) mNil)) (gNm 3)) (sSeq (sIf (tOrM (tNotM (tTruB (mFn 64 (mCons (mVar 3) (mCons (mC (.int 3)) mNil))))) (tBl (mOp (dEq true) (mFn 62 (mCons (mVar 9) (mCons (mVar 3) mNil))) (mTup (mCons (mCall bLen (mCons (mVar 3) mNil)) (mCons (mC (.int 1)) mNil)))))) (sRet (mC (.bl false))) sNil) (sSeq (sAsg (mLst (mCons (mTup (mCons (mTup (mCons (mTup (mCons (mC (.int 1)) mNil)) (mCons (mTup (mCons (mC (.int 1)) (mCons (mC (.int 1)) mNil))) mNil))) (mCons (mTup (mCons (mTup (mCons (mC (.int 2)) mNil)) (mCons (mTup (mCons (mC (.int 2)) (mCons (mC (.int 1)) mNil))) mNil))) mNil))) (mCons (mTup (mCons (mTup (mCons (mTup (mCons (mC (.int 0)) mNil)) (mCons (mTup (mCons (mUn dNeg (mC (.int 1))) (mCons (mC (.int 1)) mNil))) mNil))) (mCons (mTup (mCons (mTup (mCons (mC (.int 2)) mNil)) (mCons (mTup (mCons (mC (.int 1)) (mCons (mC (.int 1)) mNil))) mNil))) mNil))) (mCons (mTup (mCons (mTup (mCons (mTup (mCons (mC (.int 1)) mNil)) (mCons (mTup (mCons (mC (.int 1)) (mCons (mC (.int 1)) mNil))) mNil))) mNil)) mNil)))) (gNm 4)) (sSeq (sAsg (mOp dAdd (mVar 4) (mLst (mCons (mCall bListA (mCons (mOp dIxB (mVar 4) (mC (.int 0))) mNil)) (mCons (mC .non) (mCons (mRevS (mOp dIxB (mVar 4) (mC (.int 0))) (oSome (mUn dNeg (mC (.int 1))))) mNil))))) (gNm 4)) (sSeq (sAsg (mLst (mCons (mLc (iSeq' (mVar 4)) (gNm 10) tYesM (mFn 45 (mCons (mDn (mVar 9)) (mCons (mTup (mCons (mC (.int 1)) (mCons (mC (.int 1)) mNil))) (mCons (mVar 10) mNil)))) [10]) (mCons (mFn 45 (mCons (mDn (mVar 9)) (mCons (mTup (mCons (mC (.int 99)) (mCons (mC (.int 100)) mNil))) (mCons (mOp dIxB (mVar 4) (mC (.int 0))) mNil)))) mNil))) (gNm 1)) (sSeq (sDrop (mMt fApp (mVar 1) (mCons (mFnK 45 3 [2, 1, 0] (mCons (mOp dIxB (mVar 4) (mC (.int 0))) (mCons (mLst (mCons (mC (.int 2)) (mCons (mC (.int 1)) mNil))) (mCons (mFn 55 (mCons (mDn (mVar 9)) mNil)) mNil)))) mNil))) (sSeq (sAsg (mOp dAdd (mVar 1) (mLst (mCons (mFn 45 (mCons (mDn (mVar 5)) (mCons (mTup (mCons (mC (.int 1)) (mCons (mC (.int 2)) mNil))) (mCons (mTup (mCons (mTup (mCons (mTup (mCons (mC (.int 1)) mNil)) (mCons (mTup (mCons (mC (.int 1)) (mCons (mC (.int 2)) mNil))) mNil))) mNil)) mNil)))) (mCons (mFn 45 (mCons (mDn (mVar 5)) (mCons (mTup (mCons (mC (.int 1)) (mCons (mC (.int 2)) mNil))) (mCons (mTup mNil) mNil)))) (mCons (mFn 45 (mCons (mDn (mVar 5)) (mCons (mTup (mCons (mC (.int 1)) (mCons (mC (.int 1)) mNil))) (mCons (mTup mNil) mNil)))) (mCons (mFn 45 (mCons (mVar 0) (mCons (mTup (mCons (mUn dNeg (mC (.int 3))) (mCons (mC (.int 2)) mNil))) (mCons (mTup mNil) mNil)))) mNil)))))) (gNm 1)) (sSeq (sAsg (mLst (mCons (mOp dAdd (mLst (mCons (mC (.bl true)) (mCons (mC (.bl true)) mNil))) (mOp dMulA (mLst (mCons (mC (.bl false)) mNil)) (mC (.int 4)))) (mCons (mC (.bl false)) (mCons (mC (.bl true)) (mCons (mC (.bl true)) (mCons (mC (.bl false)) (mCons (mC (.bl true)) (mCons (mC (.bl true)) mNil)))))))) (gNm 2)) (sSeq (sAsg (mOp dAdd (mVar 1) (mLst (mCons (mFn 69 (mCons (mC (.int 1)) (mCons (mDn (mVar 9)) (mCons (mTup (mCons (mC (.int 99)) (mCons (mC (.int 100)) mNil))) mNil)))) (mCons (mFn 69 (mCons (mC (.int 1)) (mCons (mDn (mVar 5)) (mCons (mTup (mCons (mC (.int 0)) (mCons (mC (.int 1)) mNil))) mNil)))) (mCons (mFn 69 (mCons (mC (.int 1)) (mCons (mVar 0) (mCons (mTup (mCons (mUn dNeg (mC (.int 2))) (mCons (mC (.int 1)) mNil))) mNil)))) mNil))))) (gNm 1)) (sSeq (sDrop (mMt fApp (mVar 1) (mCons (mFn 45 (mCons (mDn (mVar 9)) (mCons (mTup (mCons (mC (.int 1)) (mCons (mC (.int 1)) mNil))) (mCons (mFnK 44 2 [1, 0] (mCons (mLst (mCons (mC (.int 1)) (mCons (mC (.int 1)) mNil))) (mCons (mFn 55 (mCons (mDn (mVar 9)) mNil)) mNil))) mNil)))) mNil))) (sRet (mFn 54 (mCons (mVar 1) (mCons (mOp dAdd (mOp dAdd (mVar 2) (mOp dMulA (mLst (mCons (mLst (mCons (mC (.str "can not")) (mCons (mC (.bl true)) mNil))) mNil)) (mC (.int 3)))) (mLst (mCons (mC (.bl true)) mNil))) mNil)))))))))))))))))))
def m__law_most_right : MS := (mTrueC ms__law_most_right)
def r__law_most_right : EV.Row := ⟨"_law_most_right", s__law_most_right, [], N__law_most_right, m__law_most_right, (some false)⟩
theorem b__law_most_right {K : PySem.W.Frag} {f : Addr} {fd : FuncData} (F : Fun K "_law_most_right" "_law_most_right" s__law_most_right f fd) : Binds K fd [] [] := F.binds fun _ _ _ _ _ _ us hl => match us, hl with | [], _ => rfl
abbrev s__law_forms_right : PySem.Stmt := tp 86
def N__law_forms_right : List Str := ["bend_so", "both_so", "far_so", "got", "due", "rows_so", "less_so", "away_so", "own", "n_so", "told_so"]
def ms__law_forms_right : MS := (sSeq (sAsg (mTup (mCons (mTup (mCons (mTup (mCons (mTup (mCons (mTup (mCons (mC (.int 0)) mNil)) (mCons (mTup (mCons (mC (.int 1)) mNil)) mNil))) (mCons (mTup (mCons (mC (.int 1)) (mCons (mC (.int 1)) mNil))) mNil))) (mCons (mTup (mCons (mTup (mCons (mTup (mCons (mC (.int 1)) mNil)) (mCons (mTup (mCons (mC (.int 0)) mNil)) mNil))) (mCons (mTup (mCons (mUn dNeg (mC (.int 1))) (mCons (mC (.int 1)) mNil))) mNil))) mNil))) (mCons (mTup (mCons (mTup (mCons (mTup (mCons (mTup (mCons (mC (.int 1)) mNil)) (mCons (mTup (mCons (mC (.int 1)) mNil)) mNil))) (mCons (mTup (mCons (mC (.int 1)) (mCons (mC (.int 1)) mNil))) mNil))) (mCons (mTup (mCons (mTup (mCons (mTup (mCons (mC (.int 2)) mNil)) (mCons (mTup (mCons (mC (.int 0)) mNil)) mNil))) (mCons (mTup (mCons (mUn dNeg (mC (.int 1))) (mCons (mC (.int 1)) mNil))) mNil))) mNil))) mNil))) (gTp 2 (gsCons (gNm 6) (gsCons (gNm 7) gsNil)))) (sSeq (sAsg (mTup (mCons (mTup (mCons (mTup (mCons (mTup (mCons (mC (.int 0)) mNil)) (mCons (mTup (mCons (mC (.int 0)) mNil)) (mCons (mTup (mCons (mC (.int 1)) mNil)) mNil)))) (mCons (mTup (mCons (mC (.int 1)) (mCons (mC (.int 1)) mNil))) mNil))) (mCons (mTup (mCons (mTup (mCons (mTup (mCons (mC (.int 0)) mNil)) (mCons (mTup (mCons (mC (.int 1)) mNil)) (mCons (mTup (mCons (mC (.int 0)) mNil)) mNil)))) (mCons (mTup (mCons (mUn dNeg (mC (.int 2))) (mCons (mC (.int 1)) mNil))) mNil))) (mCons (mTup (mCons (mTup (mCons (mTup (mCons (mC (.int 1)) mNil)) (mCons (mTup (mCons (mC (.int 0)) mNil)) (mCons (mTup (mCons (mC (.int 0)) mNil)) mNil)))) (mCons (mTup (mCons (mC (.int 1)) (mCons (mC (.int 1)) mNil))) mNil))) mNil)))) (gNm 0)) (sSeq (sAsg (mTup (mCons (mTup (mCons (mTup (mCons (mTup (mCons (mC (.int 0)) (mCons (mC (.int 0)) mNil))) (mCons (mTup (mCons (mC (.int 1)) (mCons (mC (.int 1)) mNil))) mNil))) (mCons (mTup (mCons (mC (.int 1)) (mCons (mC (.int 1)) mNil))) mNil))) (mCons (mTup (mCons (mTup (mCons (mTup (mCons (mC (.int 1)) (mCons (mC (.int 1)) mNil))) (mCons (mTup (mCons (mC (.int 0)) (mCons (mC (.int 0)) mNil))) mNil))) (mCons (mTup (mCons (mUn dNeg (mC (.int 1))) (mCons (mC (.int 1)) mNil))) mNil))) mNil))) (gNm 1)) (sSeq (sAsg (mTup (mCons (mTup (mCons (mTup (mCons (mTup (mCons (mC (.int 1)) mNil)) (mCons (mTup (mCons (mC (.int 0)) mNil)) (mCons (mTup (mCons (mC (.int 1)) mNil)) mNil)))) (mCons (mTup (mCons (mC (.int 1)) (mCons (mC (.int 1)) mNil))) mNil))) (mCons (mTup (mCons (mTup (mCons (mTup (mCons (mC (.int 1)) mNil)) (mCons (mTup (mCons (mC (.int 1)) mNil)) (mCons (mTup (mCons (mC (.int 0)) mNil)) mNil)))) (mCons (mTup (mCons (mUn dNeg (mC (.int 1))) (mCons (mC (.int 1)) mNil))) mNil))) mNil))) (gNm 2)) (sSeq (sAsg (mLc (iSeq' (mTup (mCons (mTup (mCons (mVar 6) (mCons (mC (.int 2)) mNil))) (mCons (mTup (mCons (mVar 7) (mCons (mC (.int 2)) mNil))) (mCons (mTup (mCons (mVar 0) (mCons (mC (.int 3)) mNil))) (mCons (mTup (mCons (mVar 2) (mCons (mC (.int 3)) mNil))) (mCons (mTup (mCons (mTup mNil) (mCons (mC (.int 2)) mNil))) (mCons (mTup (mCons (mTup mNil) (mCons (mC (.int 1)) mNil))) (mCons (mTup (mCons (mTup (mCons (mTup (mCons (mTup (mCons (mTup (mCons (mC (.int 1)) mNil)) mNil)) (mCons (mTup (mCons (mC (.int 1)) (mCons (mC (.int 1)) mNil))) mNil))) mNil)) (mCons (mC (.int 1)) mNil))) mNil))))))))) (gTp 2 (gsCons (gNm 8) (gsCons (gNm 9) gsNil))) tYesM (mFn 69 (mCons (mC (.int 2)) (mCons (mVar 8) (mCons (mVar 9) mNil)))) [8, 9]) (gNm 3)) (sSeq (sAsg (mLst (mCons (mTup (mCons (mTup (mCons (mTup (mCons (mTup (mCons (mC (.int 1)) mNil)) mNil)) (mCons (mTup (mCons (mC (.int 1)) (mCons (mC (.int 1)) mNil))) mNil))) mNil)) (mCons (mLst (mCons (mC (.str "can not")) (mCons (mC (.bl true)) mNil))) (mCons (mVar 6) (mCons (mLst (mCons (mC (.str "can not")) (mCons (mC (.bl true)) mNil))) (mCons (mTup mNil) (mCons (mTup mNil) (mCons (mLst (mCons (mC (.str "can not")) (mCons (mC (.bl true)) mNil))) mNil)))))))) (gNm 4)) (sSeq (sAsg (mOp dAdd (mVar 3) (mLst (mCons (mFn 69 (mCons (mC (.int 2)) (mCons (mTup (mCons (mTup (mCons (mTup (mCons (mTup (mCons (mC (.int 0)) mNil)) (mCons (mTup (mCons (mC (.int 0)) mNil)) mNil))) (mCons (mTup (mCons (mC (.int 1)) (mCons (mC (.int 1)) mNil))) mNil))) mNil)) (mCons (mC (.int 2)) mNil)))) (mCons (mFn 46 (mCons (mVar 1) (mCons (mC (.int 2)) (mCons (mC (.int 2)) mNil)))) (mCons (mFnK 46 3 [2, 1, 0] (mCons (mC (.int 1)) (mCons (mC (.int 3)) (mCons (mFn 55 (mCons (mVar 0) mNil)) mNil)))) mNil))))) (gNm 3)) (sSeq (sAsg (mOp dAdd (mVar 4) (mLst (mCons (mLst (mCons (mC (.str "can not")) (mCons (mC (.bl true)) mNil))) (mCons (mTup (mCons (mTup (mCons (mTup (mCons (mTup (mCons (mC (.int 1)) (mCons (mC (.int 1)) mNil))) mNil)) (mCons (mTup (mCons (mC (.int 1)) (mCons (mC (.int 1)) mNil))) mNil))) mNil)) (mCons (mVar 6) mNil))))) (gNm 4)) (sSeq (sAsg (mTup (mCons (mTup (mCons (mTup (mCons (mC (.int 1)) (mCons (mC (.int 1)) mNil))) mNil)) (mCons (mTup (mCons (mTup (mCons (mC (.int 2)) (mCons (mC (.int 1)) mNil))) mNil)) mNil))) (gNm 5)) (sSeq (sAsg (mOp dAdd (mVar 3) (mLst (mCons (mFn 49 (mCons (mVar 7) (mCons (mC (.int 2)) (mCons (mVar 5) mNil)))) (mCons (mFn 49 (mCons (mVar 7) (mCons (mC (.int 2)) (mCons (mSl (mVar 5) oNone (oSome (mC (.int 1)))) mNil)))) (mCons (mFnK 49 3 [2, 1, 0] (mCons (mFn 55 (mCons (mVar 5) mNil)) (mCons (mC (.int 3)) (mCons (mFn 55 (mCons (mVar 2) mNil)) mNil)))) (mCons (mFn 49 (mCons (mVar 0) (mCons (mC (.int 3)) (mCons (mVar 5) mNil)))) mNil)))))) (gNm 3)) (sSeq (sAsg (mOp dAdd (mVar 4) (mLst (mCons (mTup (mCons (mUn dNeg (mC (.int 1))) (mCons (mC (.int 1)) mNil))) (mCons (mTup (mCons (mC (.int 0)) (mCons (mC (.int 1)) mNil))) (mCons (mTup (mCons (mC (.int 1)) (mCons (mC (.int 1)) mNil))) (mCons (mTup (mCons (mC (.int 0)) (mCons (mC (.int 1)) mNil))) mNil)))))) (gNm 4)) (sSeq (sAsg (mOp dAdd (mVar 3) (mLst (mCons (mFn 50 (mCons (mVar 6) (mCons (mC (.int 2)) (mCons (mC (.int 1)) mNil)))) (mCons (mFnK 50 3 [2, 1, 0] (mCons (mC (.int 1)) (mCons (mC (.int 3)) (mCons (mFn 55 (mCons (mVar 0) mNil)) mNil)))) (mCons (mFn 50 (mCons (mTup mNil) (mCons (mC (.int 1)) (mCons (mC (.int 2)) mNil)))) mNil))))) (gNm 3)) (sSeq (sIf (tNotM (tTruB (mFn 54 (mCons (mVar 3) (mCons (mOp dAdd (mVar 4) (mLst (mCons (mC .non) (mCons (mC .non) (mCons (mC .non) mNil))))) mNil))))) (sRet (mC (.bl false))) sNil) (sSeq (sFor (iSeq' (mTup (mCons (mTup (mCons (mVar 7) (mCons (mC (.int 2)) mNil))) (mCons (mTup (mCons (mVar 2) (mCons (mC (.int 3)) mNil))) (mCons (mTup (mCons (mTup (mCons (mTup (mCons (mTup (mCons (mTup (mCons (mC (.int 0)) mNil)) (mCons (mTup (mCons (mC (.int 0)) mNil)) mNil))) (mCons (mTup (mCons (mC (.int 1)) (mCons (mC (.int 1)) mNil))) mNil))) mNil)) (mCons (mC (.int 2)) mNil))) (mCons (mTup (mCons (mTup (mCons (mTup (mCons (mTup (mCons (mTup (mCons (mC (.int 1)) mNil)) mNil)) (mCons (mTup (mCons (mC (.int 1)) (mCons (mC (.int 1)) mNil))) mNil))) mNil)) (mCons (mC (.int 1)) mNil))) mNil)))))) (gTp 2 (gsCons (gNm 8) (gsCons (gNm 9) gsNil))) (sSeq (sAsg (mFn 50 (mCons (mVar 8) (mCons (mVar 9) (mCons (mC (.int 1)) mNil)))) (gNm 10)) (sIf (tOrM (tNotM (tTruB (mFn 67 (mCons (mVar 10) (mCons (mC (.int 1)) mNil))))) (tBl (mOp (dEq false) (mOp dIxB (mFn 66 (mCons (mVar 8) (mCons (mVar 9) (mCons (mVar 10) mNil)))) (mC (.int 0))) (mC (.int 0))))) (sRet (mC (.bl false))) sNil))) (sRet (mC (.bl true)))))))))))))))))
def m__law_forms_right : MS := (mTrueC ms__law_forms_right)
def r__law_forms_right : EV.Row := ⟨"_law_forms_right", s__law_forms_right, [], N__law_forms_right, m__law_forms_right, (some false)⟩
theorem b__law_forms_right {K : PySem.W.Frag} {f : Addr} {fd : FuncData} (F : Fun K "_law_forms_right" "_law_forms_right" s__law_forms_right f fd) : Binds K fd [] [] := F.binds fun _ _ _ _ _ _ us hl => match us, hl with | [], _ => rfl
abbrev s_law : PySem.Stmt := tp 87
def N_law : List Str := ["script", "lot_so"]
def m_law : MS := (sSeq (sIf (tOrM (tNotM (tTruB (mFn 71 mNil))) (tNotM (tTruB (mFn 72 mNil)))) (sRet (mC (.bl false))) sNil) (sSeq (sAsg (mFn 52 (mCons (mFn 51 (mCons (mFn 53 (mCons (mVar 0) (mCons (mC (.int 1)) mNil))) (mCons (mC (.int 0)) mNil))) (mCons (mC (.int 3)) mNil))) (gNm 1)) (sSeq (sIf (tBl (mOp (dEq false) (mVar 1) (mC (.int 0)))) (sRet (mFn 70 mNil)) sNil) (sRet (mIf (tBl (mOp (dEq false) (mVar 1) (mC (.int 1)))) (mFn 73 mNil) (mFn 74 mNil))))))
def r_law : EV.Row := ⟨"law", s_law, ["script"], N_law, m_law, (some false)⟩
theorem kb_form_ring_c_n_form {K : PySem.W.Frag} {f : Addr} {fd : FuncData} (F : Fun K "form_ring" "form_ring" s_form_ring f fd) : KBinds K fd ["form", "n", "c"] ["c", "n", "form"] (gP 3 [2, 1, 0]) (gP 3 [2, 1, 0]) := by
  obtain ⟨oc, od, kV, doc, pm, an, cdv, ct, osl, rfl, lk, hcd⟩ := F.ex
  exact kb_of rfl (by decide) fun ws hl => match ws, hl with | [_, _, _], _ => rfl
theorem kb_form_store_c_n_form {K : PySem.W.Frag} {f : Addr} {fd : FuncData} (F : Fun K "form_store" "form_store" s_form_store f fd) : KBinds K fd ["form", "n", "c"] ["c", "n", "form"] (gP 3 [2, 1, 0]) (gP 3 [2, 1, 0]) := by
  obtain ⟨oc, od, kV, doc, pm, an, cdv, ct, osl, rfl, lk, hcd⟩ := F.ex
  exact kb_of rfl (by decide) fun ws hl => match ws, hl with | [_, _, _], _ => rfl
theorem kb_gaining_ring_gain {K : PySem.W.Frag} {f : Addr} {fd : FuncData} (F : Fun K "gaining_ring" "gaining_ring" s_gaining_ring f fd) : KBinds K fd ["gain"] ["gain"] (gP 1 [0]) (gP 1 [0]) := by
  obtain ⟨oc, od, kV, doc, pm, an, cdv, ct, osl, rfl, lk, hcd⟩ := F.ex
  exact kb_of rfl (by decide) fun ws hl => match ws, hl with | [_], _ => rfl
theorem kb_is_gain_thing {K : PySem.W.Frag} {f : Addr} {fd : FuncData} (F : Fun K "is_gain" "is_gain" s_is_gain f fd) : KBinds K fd ["thing"] ["thing"] (gP 1 [0]) (gP 1 [0]) := by
  obtain ⟨oc, od, kV, doc, pm, an, cdv, ct, osl, rfl, lk, hcd⟩ := F.ex
  exact kb_of rfl (by decide) fun ws hl => match ws, hl with | [_], _ => rfl
theorem kb_is_most_store_thing_bound_gain {K : PySem.W.Frag} {f : Addr} {fd : FuncData} (F : Fun K "is_most_store" "is_most_store" s_is_most_store f fd) : KBinds K fd ["gain", "bound", "thing"] ["thing", "bound", "gain"] (gP 3 [2, 1, 0]) (gP 3 [2, 1, 0]) := by
  obtain ⟨oc, od, kV, doc, pm, an, cdv, ct, osl, rfl, lk, hcd⟩ := F.ex
  exact kb_of rfl (by decide) fun ws hl => match ws, hl with | [_, _, _], _ => rfl
theorem kb_is_store_thing_gain {K : PySem.W.Frag} {f : Addr} {fd : FuncData} (F : Fun K "is_store" "is_store" s_is_store f fd) : KBinds K fd ["gain", "thing"] ["thing", "gain"] (gP 2 [1, 0]) (gP 2 [1, 0]) := by
  obtain ⟨oc, od, kV, doc, pm, an, cdv, ct, osl, rfl, lk, hcd⟩ := F.ex
  exact kb_of rfl (by decide) fun ws hl => match ws, hl with | [_, _], _ => rfl
theorem kb_is_stream_thing {K : PySem.W.Frag} {f : Addr} {fd : FuncData} (F : Fun K "is_stream" "is_stream" s_is_stream f fd) : KBinds K fd ["thing"] ["thing"] (gP 1 [0]) (gP 1 [0]) := by
  obtain ⟨oc, od, kV, doc, pm, an, cdv, ct, osl, rfl, lk, hcd⟩ := F.ex
  exact kb_of rfl (by decide) fun ws hl => match ws, hl with | [_], _ => rfl
theorem kb_most_ring_gain {K : PySem.W.Frag} {f : Addr} {fd : FuncData} (F : Fun K "most_ring" "most_ring" s_most_ring f fd) : KBinds K fd ["gain"] ["gain"] (gP 1 [0]) (gP 1 [0]) := by
  obtain ⟨oc, od, kV, doc, pm, an, cdv, ct, osl, rfl, lk, hcd⟩ := F.ex
  exact kb_of rfl (by decide) fun ws hl => match ws, hl with | [_], _ => rfl
theorem kb_most_step_gain {K : PySem.W.Frag} {f : Addr} {fd : FuncData} (F : Fun K "most_step" "most_step" s_most_step f fd) : KBinds K fd ["gain"] ["gain"] (gP 1 [0]) (gP 1 [0]) := by
  obtain ⟨oc, od, kV, doc, pm, an, cdv, ct, osl, rfl, lk, hcd⟩ := F.ex
  exact kb_of rfl (by decide) fun ws hl => match ws, hl with | [_], _ => rfl
theorem kb_most_store_bound_gain {K : PySem.W.Frag} {f : Addr} {fd : FuncData} (F : Fun K "most_store" "most_store" s_most_store f fd) : KBinds K fd ["gain", "bound"] ["bound", "gain"] (gP 2 [1, 0]) (gP 2 [1, 0]) := by
  obtain ⟨oc, od, kV, doc, pm, an, cdv, ct, osl, rfl, lk, hcd⟩ := F.ex
  exact kb_of rfl (by decide) fun ws hl => match ws, hl with | [_, _], _ => rfl
theorem kb_ring_gain_ring_gain {K : PySem.W.Frag} {f : Addr} {fd : FuncData} (F : Fun K "ring_gain" "ring_gain" s_ring_gain f fd) : KBinds K fd ["gain", "ring"] ["ring", "gain"] (gP 2 [1, 0]) (gP 2 [1, 0]) := by
  obtain ⟨oc, od, kV, doc, pm, an, cdv, ct, osl, rfl, lk, hcd⟩ := F.ex
  exact kb_of rfl (by decide) fun ws hl => match ws, hl with | [_, _], _ => rfl
theorem kb_ring_sum_rows_n_form {K : PySem.W.Frag} {f : Addr} {fd : FuncData} (F : Fun K "ring_sum" "ring_sum" s_ring_sum f fd) : KBinds K fd ["form", "n", "rows"] ["rows", "n", "form"] (gP 3 [2, 1, 0]) (gP 3 [2, 1, 0]) := by
  obtain ⟨oc, od, kV, doc, pm, an, cdv, ct, osl, rfl, lk, hcd⟩ := F.ex
  exact kb_of rfl (by decide) fun ws hl => match ws, hl with | [_, _, _], _ => rfl
theorem kb_step_gain_stream_gain {K : PySem.W.Frag} {f : Addr} {fd : FuncData} (F : Fun K "step_gain" "step_gain" s_step_gain f fd) : KBinds K fd ["gain", "stream"] ["stream", "gain"] (gP 2 [1, 0]) (gP 2 [1, 0]) := by
  obtain ⟨oc, od, kV, doc, pm, an, cdv, ct, osl, rfl, lk, hcd⟩ := F.ex
  exact kb_of rfl (by decide) fun ws hl => match ws, hl with | [_, _], _ => rfl
def B : List EV.Row := [r_lowest, r_plus, r_less, r_times, r_over, r_is_below, r_total, r_whole_power, r_power, r_common_bottom, r_whole, r_sums_by_key, r_primes, r_free_rows, r_monomial, r_value_at, r_scaled, r_placed, r_as_tuples, r_is_number, r_is_tuple_of, r_is_fraction, r_is_fraction_not_0, r_rises, r_is_gain, r_are_held, r_is_held, r_are_letters, r_is_stream, r_table_of, r_words_of, r_round_at, r_ring_gain, r_step_gain, r_word_chance, r_begun, r_store, r_is_store, r_steps_by, r_gaining_ring, r_most_ring, r_most_walks, r_least_rise, r_most_step, r_most_store, r_is_most_store, r_form_store, r_cores_of, r_any_core, r_ring_sum, r_form_ring, r__law_box, r__law_take, r__law_cells, r__law_same, r__law_lists, r__law_gcd, r__law_fr, r__law_add, r__law_mul, r__law_sum, r__law_turned, r__law_gained, r__law_is_fr, r__law_is_ring, r__law_value, r__law_round, r__law_are_rows, r__law_names, r__law_heard, r__law_things_right, r__law_rings_right, r__law_stores_right, r__law_most_right, r__law_forms_right, r_law]
def Z : List (Str × GV) := [(("lowest" : Str), GV.fn 0), (("plus" : Str), GV.fn 1), (("less" : Str), GV.fn 2), (("times" : Str), GV.fn 3), (("over" : Str), GV.fn 4), (("is_below" : Str), GV.fn 5), (("total" : Str), GV.fn 6), (("whole_power" : Str), GV.fn 7), (("power" : Str), GV.fn 8), (("common_bottom" : Str), GV.fn 9), (("whole" : Str), GV.fn 10), (("sums_by_key" : Str), GV.fn 11), (("primes" : Str), GV.fn 12), (("free_rows" : Str), GV.fn 13), (("monomial" : Str), GV.fn 14), (("value_at" : Str), GV.fn 15), (("scaled" : Str), GV.fn 16), (("placed" : Str), GV.fn 17), (("as_tuples" : Str), GV.fn 18), (("is_number" : Str), GV.fn 19), (("is_tuple_of" : Str), GV.fn 20), (("is_fraction" : Str), GV.fn 21), (("is_fraction_not_0" : Str), GV.fn 22), (("rises" : Str), GV.fn 23), (("is_gain" : Str), GV.fn 24), (("are_held" : Str), GV.fn 25), (("is_held" : Str), GV.fn 26), (("are_letters" : Str), GV.fn 27), (("is_stream" : Str), GV.fn 28), (("table_of" : Str), GV.fn 29), (("words_of" : Str), GV.fn 30), (("round_at" : Str), GV.fn 31), (("ring_gain" : Str), GV.fn 32), (("step_gain" : Str), GV.fn 33), (("word_chance" : Str), GV.fn 34), (("begun" : Str), GV.fn 35), (("store" : Str), GV.fn 36), (("is_store" : Str), GV.fn 37), (("steps_by" : Str), GV.fn 38), (("gaining_ring" : Str), GV.fn 39), (("most_ring" : Str), GV.fn 40), (("most_walks" : Str), GV.fn 41), (("least_rise" : Str), GV.fn 42), (("most_step" : Str), GV.fn 43), (("most_store" : Str), GV.fn 44), (("is_most_store" : Str), GV.fn 45), (("form_store" : Str), GV.fn 46), (("cores_of" : Str), GV.fn 47), (("any_core" : Str), GV.fn 48), (("ring_sum" : Str), GV.fn 49), (("form_ring" : Str), GV.fn 50), (("_law_box" : Str), GV.fn 51), (("_law_take" : Str), GV.fn 52), (("_law_cells" : Str), GV.fn 53), (("_law_same" : Str), GV.fn 54), (("_law_lists" : Str), GV.fn 55), (("_law_gcd" : Str), GV.fn 56), (("_law_fr" : Str), GV.fn 57), (("_law_add" : Str), GV.fn 58), (("_law_mul" : Str), GV.fn 59), (("_law_sum" : Str), GV.fn 60), (("_law_turned" : Str), GV.fn 61), (("_law_gained" : Str), GV.fn 62), (("_law_is_fr" : Str), GV.fn 63), (("_law_is_ring" : Str), GV.fn 64), (("_law_value" : Str), GV.fn 65), (("_law_round" : Str), GV.fn 66), (("_law_are_rows" : Str), GV.fn 67), (("_law_names" : Str), GV.fn 68), (("_law_heard" : Str), GV.fn 69), (("_law_things_right" : Str), GV.fn 70), (("_law_rings_right" : Str), GV.fn 71), (("_law_stores_right" : Str), GV.fn 72), (("_law_most_right" : Str), GV.fn 73), (("_law_forms_right" : Str), GV.fn 74), (("law" : Str), GV.fn 75), (("ZERO" : Str), GV.cst (D.tup [(D.int 0), (D.int 1)])), (("ONE" : Str), GV.cst (D.tup [(D.int 1), (D.int 1)])), (("gcd" : Str), GV.mf "math.gcd"), (("lcm" : Str), GV.mf "math.lcm"), (("ValueError" : Str), GV.bi), (("abs" : Str), GV.bi), (("all" : Str), GV.bi), (("any" : Str), GV.bi), (("bool" : Str), GV.bi), (("dict" : Str), GV.bi), (("enumerate" : Str), GV.bi), (("int" : Str), GV.bi), (("isinstance" : Str), GV.bi), (("len" : Str), GV.bi), (("list" : Str), GV.bi), (("max" : Str), GV.bi), (("min" : Str), GV.bi), (("range" : Str), GV.bi), (("reversed" : Str), GV.bi), (("sorted" : Str), GV.bi), (("str" : Str), GV.bi), (("tuple" : Str), GV.bi), (("zip" : Str), GV.bi)]
theorem law_binds {K : PySem.W.Frag} {f : Addr} {fd : FuncData} (F : Fun K r_law.x r_law.x r_law.st f fd) (u : Value) : bindArgs fd ⟨[u], []⟩ = pure [(("script" : Str), u)] := by
  obtain ⟨oc, od, kV, doc, pm, an, cdv, ct, osl, rfl, lk, hcd⟩ := F.ex
  rfl
theorem ok_lowest {X : Cx} {g : Cfg} {W : WX} {n : Nat} (P : Px X) (tp : Tp X) (C : Ct X B Z g W (lv n) N_lowest (defScope s_lowest).names) (Dd : Dp X g (lv n) (some false)) : PSs X (defBody s_lowest) (ts g W m_lowest) :=
  (s_cons (s_asg (ws := [2]) (mf_ C (c_gcd) (by kernel_rfl) (by kernel_rfl) (a_cons (v_ C 0 (by kernel_rfl)) (a_cons (v_ C 1 (by kernel_rfl)) a_nil rfl) rfl)) (gn_ C 2 (by kernel_rfl)) rfl rfl rfl) (s_cons (s_if (t_cmp (o_lt C.at_) (v_ C 1 (by kernel_rfl)) (i_ 0) rfl) (s_one (s_asg (ws := [2]) (e_un o_neg (v_ C 2 (by kernel_rfl))) (gn_ C 2 (by kernel_rfl)) rfl rfl rfl)) s_nil) (s_one (s_ret (e_tup (a_cons (e_op (o_fdiv) (v_ C 0 (by kernel_rfl)) (v_ C 2 (by kernel_rfl))) (a_cons (e_op (o_fdiv) (v_ C 1 (by kernel_rfl)) (v_ C 2 (by kernel_rfl))) a_nil rfl) rfl))))))
theorem ok_plus {X : Cx} {g : Cfg} {W : WX} {n : Nat} (P : Px X) (tp : Tp X) (C : Ct X B Z g W (lv n) N_plus (defScope s_plus).names) (Dd : Dp X g (lv n) (some false)) : PSs X (defBody s_plus) (ts g W m_plus) :=
  (s_one (s_ret (e_fn C 0 (r := r_lowest) (by kernel_rfl) rfl b_lowest (by kernel_rfl) (a_cons (e_op (o_add C.at_) (e_op (o_mulA C.at_) (e_ixB C.at_ (v_ C 0 (by kernel_rfl)) (i_ 0) (fun _ _ => rfl)) (e_ixB C.at_ (v_ C 1 (by kernel_rfl)) (i_ 1) (fun _ _ => rfl))) (e_op (o_mulA C.at_) (e_ixB C.at_ (v_ C 1 (by kernel_rfl)) (i_ 0) (fun _ _ => rfl)) (e_ixB C.at_ (v_ C 0 (by kernel_rfl)) (i_ 1) (fun _ _ => rfl)))) (a_cons (e_op (o_mulA C.at_) (e_ixB C.at_ (v_ C 0 (by kernel_rfl)) (i_ 1) (fun _ _ => rfl)) (e_ixB C.at_ (v_ C 1 (by kernel_rfl)) (i_ 1) (fun _ _ => rfl))) a_nil rfl) rfl))))
theorem ok_less {X : Cx} {g : Cfg} {W : WX} {n : Nat} (P : Px X) (tp : Tp X) (C : Ct X B Z g W (lv n) N_less (defScope s_less).names) (Dd : Dp X g (lv n) (some false)) : PSs X (defBody s_less) (ts g W m_less) :=
  (s_one (s_ret (e_fn C 0 (r := r_lowest) (by kernel_rfl) rfl b_lowest (by kernel_rfl) (a_cons (e_op (o_sub) (e_op (o_mulA C.at_) (e_ixB C.at_ (v_ C 0 (by kernel_rfl)) (i_ 0) (fun _ _ => rfl)) (e_ixB C.at_ (v_ C 1 (by kernel_rfl)) (i_ 1) (fun _ _ => rfl))) (e_op (o_mulA C.at_) (e_ixB C.at_ (v_ C 1 (by kernel_rfl)) (i_ 0) (fun _ _ => rfl)) (e_ixB C.at_ (v_ C 0 (by kernel_rfl)) (i_ 1) (fun _ _ => rfl)))) (a_cons (e_op (o_mulA C.at_) (e_ixB C.at_ (v_ C 0 (by kernel_rfl)) (i_ 1) (fun _ _ => rfl)) (e_ixB C.at_ (v_ C 1 (by kernel_rfl)) (i_ 1) (fun _ _ => rfl))) a_nil rfl) rfl))))
theorem ok_times {X : Cx} {g : Cfg} {W : WX} {n : Nat} (P : Px X) (tp : Tp X) (C : Ct X B Z g W (lv n) N_times (defScope s_times).names) (Dd : Dp X g (lv n) (some false)) : PSs X (defBody s_times) (ts g W m_times) :=
  (s_one (s_ret (e_fn C 0 (r := r_lowest) (by kernel_rfl) rfl b_lowest (by kernel_rfl) (a_cons (e_op (o_mulA C.at_) (e_ixB C.at_ (v_ C 0 (by kernel_rfl)) (i_ 0) (fun _ _ => rfl)) (e_ixB C.at_ (v_ C 1 (by kernel_rfl)) (i_ 0) (fun _ _ => rfl))) (a_cons (e_op (o_mulA C.at_) (e_ixB C.at_ (v_ C 0 (by kernel_rfl)) (i_ 1) (fun _ _ => rfl)) (e_ixB C.at_ (v_ C 1 (by kernel_rfl)) (i_ 1) (fun _ _ => rfl))) a_nil rfl) rfl))))
theorem ok_over {X : Cx} {g : Cfg} {W : WX} {n : Nat} (P : Px X) (tp : Tp X) (C : Ct X B Z g W (lv n) N_over (defScope s_over).names) (Dd : Dp X g (lv n) (some false)) : PSs X (defBody s_over) (ts g W m_over) :=
  (s_one (s_ret (e_fn C 0 (r := r_lowest) (by kernel_rfl) rfl b_lowest (by kernel_rfl) (a_cons (e_op (o_mulA C.at_) (e_ixB C.at_ (v_ C 0 (by kernel_rfl)) (i_ 0) (fun _ _ => rfl)) (e_ixB C.at_ (v_ C 1 (by kernel_rfl)) (i_ 1) (fun _ _ => rfl))) (a_cons (e_op (o_mulA C.at_) (e_ixB C.at_ (v_ C 0 (by kernel_rfl)) (i_ 1) (fun _ _ => rfl)) (e_ixB C.at_ (v_ C 1 (by kernel_rfl)) (i_ 0) (fun _ _ => rfl))) a_nil rfl) rfl))))
theorem ok_is_below {X : Cx} {g : Cfg} {W : WX} {n : Nat} (P : Px X) (tp : Tp X) (C : Ct X B Z g W (lv n) N_is_below (defScope s_is_below).names) (Dd : Dp X g (lv n) (some false)) : PSs X (defBody s_is_below) (ts g W m_is_below) :=
  (s_one (s_ret (e_cmp (o_lt C.at_) (e_op (o_mulA C.at_) (e_ixB C.at_ (v_ C 0 (by kernel_rfl)) (i_ 0) (fun _ _ => rfl)) (e_ixB C.at_ (v_ C 1 (by kernel_rfl)) (i_ 1) (fun _ _ => rfl))) (e_op (o_mulA C.at_) (e_ixB C.at_ (v_ C 1 (by kernel_rfl)) (i_ 0) (fun _ _ => rfl)) (e_ixB C.at_ (v_ C 0 (by kernel_rfl)) (i_ 1) (fun _ _ => rfl))) rfl)))
theorem ok_total {X : Cx} {g : Cfg} {W : WX} {n : Nat} (P : Px X) (tp : Tp X) (C : Ct X B Z g W (lv n) N_total (defScope s_total).names) (Dd : Dp X g (lv n) (some false)) : PSs X (defBody s_total) (ts g W m_total) :=
  (s_cons (s_asg (ws := [1]) (k_ C (D.tup [(D.int 0), (D.int 1)]) (by kernel_rfl) (by kernel_rfl)) (gn_ C 1 (by kernel_rfl)) rfl rfl rfl) (s_cons (s_for (ws := [2]) C.at_ (i_seq C.at_ (v_ C 0 (by kernel_rfl))) (gn_ C 2 (by kernel_rfl)) (s_one (s_asg (ws := [1]) (e_fn C 1 (r := r_plus) (by kernel_rfl) rfl b_plus (by kernel_rfl) (a_cons (v_ C 1 (by kernel_rfl)) (a_cons (v_ C 2 (by kernel_rfl)) a_nil rfl) rfl)) (gn_ C 1 (by kernel_rfl)) rfl rfl rfl)) (fun _ => rfl)) (s_one (s_ret (v_ C 1 (by kernel_rfl))))))
theorem ok_whole_power {X : Cx} {g : Cfg} {W : WX} {n : Nat} (P : Px X) (tp : Tp X) (C : Ct X B Z g W (lv n) N_whole_power (defScope s_whole_power).names) (Dd : Dp X g (lv n) (some false)) : PSs X (defBody s_whole_power) (ts g W m_whole_power) :=
  (s_cons (s_asg (ws := [2]) (i_ 1) (gn_ C 2 (by kernel_rfl)) rfl rfl rfl) (s_cons (s_while C.at_.po (t_cmp (op_intB op_gt) (v_ C 1 (by kernel_rfl)) (i_ 0) rfl) (s_cons (s_if (t_truB C.at_ (e_op (o_and) (v_ C 1 (by kernel_rfl)) (i_ 1)) (fun _ => rfl)) (s_one (s_asg (ws := [2]) (e_op (o_mulA C.at_) (v_ C 2 (by kernel_rfl)) (v_ C 0 (by kernel_rfl))) (gn_ C 2 (by kernel_rfl)) rfl rfl rfl)) s_nil) (s_cons (s_asg (ws := [1]) (e_op (o_shr) (v_ C 1 (by kernel_rfl)) (i_ 1)) (gn_ C 1 (by kernel_rfl)) rfl rfl rfl) (s_one (s_if (t_cmp (op_intB op_gt) (v_ C 1 (by kernel_rfl)) (i_ 0) rfl) (s_one (s_asg (ws := [0]) (e_op (o_mulA C.at_) (v_ C 0 (by kernel_rfl)) (v_ C 0 (by kernel_rfl))) (gn_ C 0 (by kernel_rfl)) rfl rfl rfl)) s_nil))))) (s_one (s_ret (v_ C 2 (by kernel_rfl))))))
theorem ok_power {X : Cx} {g : Cfg} {W : WX} {n : Nat} (P : Px X) (tp : Tp X) (C : Ct X B Z g W (lv n) N_power (defScope s_power).names) (Dd : Dp X g (lv n) (some false)) : PSs X (defBody s_power) (ts g W m_power) :=
  (s_one (s_ret (e_tup (a_cons (e_fn C 7 (r := r_whole_power) (by kernel_rfl) rfl b_whole_power (by kernel_rfl) (a_cons (e_ixB C.at_ (v_ C 0 (by kernel_rfl)) (i_ 0) (fun _ _ => rfl)) (a_cons (v_ C 1 (by kernel_rfl)) a_nil rfl) rfl)) (a_cons (e_fn C 7 (r := r_whole_power) (by kernel_rfl) rfl b_whole_power (by kernel_rfl) (a_cons (e_ixB C.at_ (v_ C 0 (by kernel_rfl)) (i_ 1) (fun _ _ => rfl)) (a_cons (v_ C 1 (by kernel_rfl)) a_nil rfl) rfl)) a_nil rfl) rfl))))
theorem ok_common_bottom {X : Cx} {g : Cfg} {W : WX} {n : Nat} (P : Px X) (tp : Tp X) (C : Ct X B Z g W (lv n) N_common_bottom (defScope s_common_bottom).names) (Dd : Dp X g (lv n) (some false)) : PSs X (defBody s_common_bottom) (ts g W m_common_bottom) :=
  (s_cons (s_asg (ws := [1]) (i_ 1) (gn_ C 1 (by kernel_rfl)) rfl rfl rfl) (s_cons (s_for (ws := [2]) C.at_ (i_seq C.at_ (v_ C 0 (by kernel_rfl))) (gn_ C 2 (by kernel_rfl)) (s_one (s_asg (ws := [1]) (mf_ C (c_lcm) (by kernel_rfl) (by kernel_rfl) (a_cons (v_ C 1 (by kernel_rfl)) (a_cons (e_ixB C.at_ (v_ C 2 (by kernel_rfl)) (i_ 1) (fun _ _ => rfl)) a_nil rfl) rfl)) (gn_ C 1 (by kernel_rfl)) rfl rfl rfl)) (fun _ => rfl)) (s_one (s_ret (v_ C 1 (by kernel_rfl))))))
theorem ok_whole {X : Cx} {g : Cfg} {W : WX} {n : Nat} (P : Px X) (tp : Tp X) (C : Ct X B Z g W (lv n) N_whole (defScope s_whole).names) (Dd : Dp X g (lv n) (some false)) : PSs X (defBody s_whole) (ts g W m_whole) :=
  (s_one (s_ret (e_op (o_mulA C.at_) (e_ixB C.at_ (v_ C 0 (by kernel_rfl)) (i_ 0) (fun _ _ => rfl)) (e_op (o_fdiv) (v_ C 1 (by kernel_rfl)) (e_ixB C.at_ (v_ C 0 (by kernel_rfl)) (i_ 1) (fun _ _ => rfl))))))
theorem ok_sums_by_key {X : Cx} {g : Cfg} {W : WX} {n : Nat} (P : Px X) (tp : Tp X) (C : Ct X B Z g W (lv n) N_sums_by_key (defScope s_sums_by_key).names) (Dd : Dp X g (lv n) (some false)) : PSs X (defBody s_sums_by_key) (ts g W m_sums_by_key) :=
  (s_cons (s_asg (ws := [1]) (e_newD C.at_) (gn_ C 1 (by kernel_rfl)) rfl rfl rfl) (s_cons (s_for (ws := [2, 3]) C.at_ (i_seq C.at_ (v_ C 0 (by kernel_rfl))) (g_tup C.at_ (gs_cons (gn_ C 2 (by kernel_rfl)) (gs_cons (gn_ C 3 (by kernel_rfl)) gs_nil rfl) rfl) rfl rfl) (s_one (s_asg (ws := []) (e_if (t_cmp (o_inB C.at_) (v_ C 2 (by kernel_rfl)) (v_ C 1 (by kernel_rfl)) rfl) (e_fn C 1 (r := r_plus) (by kernel_rfl) rfl b_plus (by kernel_rfl) (a_cons (e_ixB C.at_ (v_ C 1 (by kernel_rfl)) (v_ C 2 (by kernel_rfl)) (fun _ _ => rfl)) (a_cons (v_ C 3 (by kernel_rfl)) a_nil rfl) rfl)) (v_ C 3 (by kernel_rfl))) (g_subB C.at_ (v_ C 1 (by kernel_rfl)) (v_ C 2 (by kernel_rfl))) rfl rfl rfl)) (fun _ => rfl)) (s_one (s_ret (v_ C 1 (by kernel_rfl))))))
theorem ok_primes {X : Cx} {g : Cfg} {W : WX} {n : Nat} (P : Px X) (tp : Tp X) (C : Ct X B Z g W (lv n) N_primes (defScope s_primes).names) (Dd : Dp X g (lv n) (some true)) : PSs X (defBody s_primes) (ts g W m_primes) :=
  (s_cons (s_asg (ws := [1]) (e_lst a_nil) (gn_ C 1 (by kernel_rfl)) rfl rfl rfl) (s_cons (s_asg (ws := [2]) (i_ 2) (gn_ C 2 (by kernel_rfl)) rfl rfl rfl) (s_cons (s_while C.at_.po (t_cmp (o_lt C.at_) (bi_ C (c_len C.at_) (by kernel_rfl) (by kernel_rfl) (by kernel_rfl) (a_cons (v_ C 1 (by kernel_rfl)) a_nil rfl)) (v_ C 0 (by kernel_rfl)) rfl) (s_cons (s_if (t_truB C.at_ (gx_all_ C Dd [(("prime" : Str), 3)] (by kernel_rfl) (show Z.lookup ("all" : Str) = some GV.bi by kernel_rfl) (by kernel_rfl) (by kernel_rfl) (i_seq C.at_ (v_ C 1 (by kernel_rfl))) (fun C => ⟨(gn_ C 3 (by kernel_rfl)), ts_nil, (e_cmp (o_ne C.at_) (e_op (o_mod) (v_ C 2 (by kernel_rfl)) (v_ C 3 (by kernel_rfl))) (i_ 0) rfl)⟩)) (fun _ => rfl)) (s_one (s_expr (e_mt C.at_ PySem.F.slot_list_append PySem.F.type_list_append mt_append app_s (v_ C 1 (by kernel_rfl)) (a_cons (v_ C 2 (by kernel_rfl)) a_nil rfl)) rfl)) s_nil) (s_one (s_augI C 2 ip_add (by kernel_rfl) (i_ 1))))) (s_one (s_ret (v_ C 1 (by kernel_rfl)))))))
theorem ok_free_rows {X : Cx} {g : Cfg} {W : WX} {n : Nat} (P : Px X) (tp : Tp X) (C : Ct X B Z g W (lv n) N_free_rows (defScope s_free_rows).names) (Dd : Dp X g (lv n) (some false)) : PSs X (defBody s_free_rows) (ts g W m_free_rows) :=
  (s_cons (s_asg (ws := [3]) (lc_ C [(("prime" : Str), 4)] (by kernel_rfl) (i_seq C.at_ (e_fn C 12 (r := r_primes) (by kernel_rfl) rfl b_primes (by kernel_rfl) (a_cons (e_op (o_mulA C.at_) (v_ C 0 (by kernel_rfl)) (v_ C 1 (by kernel_rfl))) a_nil rfl))) (fun C => ⟨(gn_ C 4 (by kernel_rfl)), ts_nil, (e_fn C 7 (r := r_whole_power) (by kernel_rfl) rfl b_whole_power (by kernel_rfl) (a_cons (v_ C 4 (by kernel_rfl)) (a_cons (v_ C 2 (by kernel_rfl)) a_nil rfl) rfl))⟩)) (gn_ C 3 (by kernel_rfl)) (swp_cellL C (by kernel_rfl)) rfl rfl) (s_one (s_ret (ty_ C (c_tuple C.at_) (by kernel_rfl) (by kernel_rfl) (by kernel_rfl) (a_cons (lc_ C [(("row" : Str), 5)] (by kernel_rfl) (i_rng1 C.at_ (C.glob (by kernel_rfl)) (C.nm _ _ (show Z.lookup ("range" : Str) = some GV.bi by kernel_rfl)) (a_cons (v_ C 0 (by kernel_rfl)) a_nil rfl) rfl) (fun C => ⟨(gn_ C 5 (by kernel_rfl)), ts_nil, (ty_ C (c_tuple C.at_) (by kernel_rfl) (by kernel_rfl) (by kernel_rfl) (a_cons (lc_ C [(("x" : Str), 6)] (by kernel_rfl) (i_seq C.at_ (e_sl C.at_ (v_ C 3 (by kernel_rfl)) (o_some (e_op (o_mulA C.at_) (v_ C 5 (by kernel_rfl)) (v_ C 1 (by kernel_rfl)))) (o_some (e_op (o_add C.at_) (e_op (o_mulA C.at_) (v_ C 5 (by kernel_rfl)) (v_ C 1 (by kernel_rfl))) (v_ C 1 (by kernel_rfl)))))) (fun C => ⟨(gn_ C 6 (by kernel_rfl)), ts_nil, (e_tup (a_cons (v_ C 6 (by kernel_rfl)) (a_cons (i_ 1) a_nil rfl) rfl))⟩)) a_nil rfl))⟩)) a_nil rfl)))))
theorem ok_monomial {X : Cx} {g : Cfg} {W : WX} {n : Nat} (P : Px X) (tp : Tp X) (C : Ct X B Z g W (lv n) N_monomial (defScope s_monomial).names) (Dd : Dp X g (lv n) (some false)) : PSs X (defBody s_monomial) (ts g W m_monomial) :=
  (s_cons (s_asg (ws := [2]) (k_ C (D.tup [(D.int 1), (D.int 1)]) (by kernel_rfl) (by kernel_rfl)) (gn_ C 2 (by kernel_rfl)) rfl rfl rfl) (s_cons (s_for (ws := [3, 4]) C.at_ (i_zipA C.at_ (C.glob (by kernel_rfl)) (C.nm _ _ (show Z.lookup ("zip" : Str) = some GV.bi by kernel_rfl)) (a_cons (v_ C 0 (by kernel_rfl)) (a_cons (v_ C 1 (by kernel_rfl)) a_nil rfl) rfl) rfl rfl) (g_tup C.at_ (gs_cons (gn_ C 3 (by kernel_rfl)) (gs_cons (gn_ C 4 (by kernel_rfl)) gs_nil rfl) rfl) rfl rfl) (s_one (s_if (t_cmp (op_intB op_gt) (v_ C 4 (by kernel_rfl)) (i_ 0) rfl) (s_one (s_asg (ws := [2]) (e_fn C 3 (r := r_times) (by kernel_rfl) rfl b_times (by kernel_rfl) (a_cons (v_ C 2 (by kernel_rfl)) (a_cons (e_fn C 8 (r := r_power) (by kernel_rfl) rfl b_power (by kernel_rfl) (a_cons (v_ C 3 (by kernel_rfl)) (a_cons (v_ C 4 (by kernel_rfl)) a_nil rfl) rfl)) a_nil rfl) rfl)) (gn_ C 2 (by kernel_rfl)) rfl rfl rfl)) s_nil)) (fun _ => rfl)) (s_one (s_ret (v_ C 2 (by kernel_rfl))))))
theorem ok_value_at {X : Cx} {g : Cfg} {W : WX} {n : Nat} (P : Px X) (tp : Tp X) (C : Ct X B Z g W (lv n) N_value_at (defScope s_value_at).names) (Dd : Dp X g (lv n) (some false)) : PSs X (defBody s_value_at) (ts g W m_value_at) :=
  (s_cons (s_asg (ws := [2]) (k_ C (D.tup [(D.int 0), (D.int 1)]) (by kernel_rfl) (by kernel_rfl)) (gn_ C 2 (by kernel_rfl)) rfl rfl rfl) (s_cons (s_for (ws := [3, 4]) C.at_ (i_seq C.at_ (v_ C 0 (by kernel_rfl))) (g_tup C.at_ (gs_cons (gn_ C 3 (by kernel_rfl)) (gs_cons (gn_ C 4 (by kernel_rfl)) gs_nil rfl) rfl) rfl rfl) (s_cons (s_for (ws := [5, 6]) C.at_ (i_zipA C.at_ (C.glob (by kernel_rfl)) (C.nm _ _ (show Z.lookup ("zip" : Str) = some GV.bi by kernel_rfl)) (a_cons (v_ C 1 (by kernel_rfl)) (a_cons (v_ C 3 (by kernel_rfl)) a_nil rfl) rfl) rfl rfl) (g_tup C.at_ (gs_cons (gn_ C 5 (by kernel_rfl)) (gs_cons (gn_ C 6 (by kernel_rfl)) gs_nil rfl) rfl) rfl rfl) (s_one (s_asg (ws := [4]) (e_fn C 3 (r := r_times) (by kernel_rfl) rfl b_times (by kernel_rfl) (a_cons (v_ C 4 (by kernel_rfl)) (a_cons (e_fn C 14 (r := r_monomial) (by kernel_rfl) rfl b_monomial (by kernel_rfl) (a_cons (v_ C 5 (by kernel_rfl)) (a_cons (v_ C 6 (by kernel_rfl)) a_nil rfl) rfl)) a_nil rfl) rfl)) (gn_ C 4 (by kernel_rfl)) rfl rfl rfl)) (fun _ => rfl)) (s_one (s_asg (ws := [2]) (e_fn C 1 (r := r_plus) (by kernel_rfl) rfl b_plus (by kernel_rfl) (a_cons (v_ C 2 (by kernel_rfl)) (a_cons (v_ C 4 (by kernel_rfl)) a_nil rfl) rfl)) (gn_ C 2 (by kernel_rfl)) rfl rfl rfl))) (fun _ => rfl)) (s_one (s_ret (v_ C 2 (by kernel_rfl))))))
theorem ok_scaled {X : Cx} {g : Cfg} {W : WX} {n : Nat} (P : Px X) (tp : Tp X) (C : Ct X B Z g W (lv n) N_scaled (defScope s_scaled).names) (Dd : Dp X g (lv n) (some false)) : PSs X (defBody s_scaled) (ts g W m_scaled) :=
  (s_cons (s_if (t_cmp (o_eq C.at_) (e_ixB C.at_ (v_ C 1 (by kernel_rfl)) (i_ 0) (fun _ _ => rfl)) (i_ 0) rfl) (s_one (s_ret (e_tup a_nil))) s_nil) (s_one (s_ret (ty_ C (c_tuple C.at_) (by kernel_rfl) (by kernel_rfl) (by kernel_rfl) (a_cons (lc_ C [(("key" : Str), 2), (("y" : Str), 3)] (by kernel_rfl) (i_seq C.at_ (v_ C 0 (by kernel_rfl))) (fun C => ⟨(g_tup C.at_ (gs_cons (gn_ C 2 (by kernel_rfl)) (gs_cons (gn_ C 3 (by kernel_rfl)) gs_nil rfl) rfl) rfl rfl), ts_nil, (e_tup (a_cons (v_ C 2 (by kernel_rfl)) (a_cons (e_fn C 3 (r := r_times) (by kernel_rfl) rfl b_times (by kernel_rfl) (a_cons (v_ C 3 (by kernel_rfl)) (a_cons (v_ C 1 (by kernel_rfl)) a_nil rfl) rfl)) a_nil rfl) rfl))⟩)) a_nil rfl)))))
theorem ok_placed {X : Cx} {g : Cfg} {W : WX} {n : Nat} (P : Px X) (tp : Tp X) (C : Ct X B Z g W (lv n) N_placed (defScope s_placed).names) (Dd : Dp X g (lv n) (some false)) : PSs X (defBody s_placed) (ts g W m_placed) :=
  (s_cons (s_asg (ws := [4]) (e_op (o_mulA C.at_) (e_tup (a_cons (i_ 0) a_nil rfl)) (v_ C 3 (by kernel_rfl))) (gn_ C 4 (by kernel_rfl)) rfl rfl rfl) (s_cons (s_asg (ws := [5, 6]) (e_tup (a_cons (e_op (o_mulA C.at_) (e_tup (a_cons (v_ C 4 (by kernel_rfl)) a_nil rfl)) (v_ C 1 (by kernel_rfl))) (a_cons (e_op (o_mulA C.at_) (e_tup (a_cons (v_ C 4 (by kernel_rfl)) a_nil rfl)) (v_ C 2 (by kernel_rfl))) a_nil rfl) rfl)) (g_tup C.at_ (gs_cons (gn_ C 5 (by kernel_rfl)) (gs_cons (gn_ C 6 (by kernel_rfl)) gs_nil rfl) rfl) rfl rfl) rfl (swp_cell2 C (by kernel_rfl)) rfl) (s_one (s_ret (ty_ C (c_tuple C.at_) (by kernel_rfl) (by kernel_rfl) (by kernel_rfl) (a_cons (lc_ C [(("powers" : Str), 7), (("x" : Str), 8)] (by kernel_rfl) (i_seq C.at_ (v_ C 0 (by kernel_rfl))) (fun C => ⟨(g_tup C.at_ (gs_cons (gn_ C 7 (by kernel_rfl)) (gs_cons (gn_ C 8 (by kernel_rfl)) gs_nil rfl) rfl) rfl rfl), ts_nil, (e_tup (a_cons (e_op (o_add C.at_) (e_op (o_add C.at_) (v_ C 5 (by kernel_rfl)) (v_ C 7 (by kernel_rfl))) (v_ C 6 (by kernel_rfl))) (a_cons (v_ C 8 (by kernel_rfl)) a_nil rfl) rfl))⟩)) a_nil rfl))))))
theorem ok_as_tuples {X : Cx} {g : Cfg} {W : WX} {n : Nat} (P : Px X) (tp : Tp X) (C : Ct X B Z g W (lv n) N_as_tuples (defScope s_as_tuples).names) (Dd : Dp X g (lv n) (some false)) : PSs X (defBody s_as_tuples) (ts g W m_as_tuples) :=
  (s_cons (s_if (t_truB C.at_ (isi2 C 4 3 (by kernel_rfl) (by kernel_rfl) (by kernel_rfl) (by decide) (by kernel_rfl) (by kernel_rfl) (by kernel_rfl) (by decide) (by kernel_rfl) (by kernel_rfl) (v_ C 0 (by kernel_rfl))) (fun _ => rfl)) (s_one (s_ret (ty_ C (c_tuple C.at_) (by kernel_rfl) (by kernel_rfl) (by kernel_rfl) (a_cons (lc_ C [(("part" : Str), 1)] (by kernel_rfl) (i_seq C.at_ (v_ C 0 (by kernel_rfl))) (fun C => ⟨(gn_ C 1 (by kernel_rfl)), ts_nil, (e_fn C 18 (r := r_as_tuples) (by kernel_rfl) rfl b_as_tuples (by kernel_rfl) (a_cons (v_ C 1 (by kernel_rfl)) a_nil rfl))⟩)) a_nil rfl)))) s_nil) (s_one (s_ret (v_ C 0 (by kernel_rfl)))))
theorem ok_is_number {X : Cx} {g : Cfg} {W : WX} {n : Nat} (P : Px X) (tp : Tp X) (C : Ct X B Z g W (lv n) N_is_number (defScope s_is_number).names) (Dd : Dp X g (lv n) (some false)) : PSs X (defBody s_is_number) (ts g W m_is_number) :=
  (s_one (s_ret (e_and C.at_ (isi1 C 0 (by kernel_rfl) (by kernel_rfl) (by kernel_rfl) (by decide) (by kernel_rfl) (by kernel_rfl) (v_ C 0 (by kernel_rfl))) (e_one (e_not C.at_ (isi1 C 1 (by kernel_rfl) (by kernel_rfl) (by kernel_rfl) (by decide) (by kernel_rfl) (by kernel_rfl) (v_ C 0 (by kernel_rfl))))))))
theorem ok_is_tuple_of {X : Cx} {g : Cfg} {W : WX} {n : Nat} (P : Px X) (tp : Tp X) (C : Ct X B Z g W (lv n) N_is_tuple_of (defScope s_is_tuple_of).names) (Dd : Dp X g (lv n) (some false)) : PSs X (defBody s_is_tuple_of) (ts g W m_is_tuple_of) :=
  (s_one (s_ret (e_and C.at_ (isi1 C 3 (by kernel_rfl) (by kernel_rfl) (by kernel_rfl) (by decide) (by kernel_rfl) (by kernel_rfl) (v_ C 0 (by kernel_rfl))) (e_one (e_cmp (o_eq C.at_) (bi_ C (c_len C.at_) (by kernel_rfl) (by kernel_rfl) (by kernel_rfl) (a_cons (v_ C 0 (by kernel_rfl)) a_nil rfl)) (v_ C 1 (by kernel_rfl)) rfl)))))
theorem ok_is_fraction {X : Cx} {g : Cfg} {W : WX} {n : Nat} (P : Px X) (tp : Tp X) (C : Ct X B Z g W (lv n) N_is_fraction (defScope s_is_fraction).names) (Dd : Dp X g (lv n) (some true)) : PSs X (defBody s_is_fraction) (ts g W m_is_fraction) :=
  (s_cons (s_if (PW.pt (t_or (t_not (t_truB C.at_ (e_fn C 20 (r := r_is_tuple_of) (by kernel_rfl) rfl b_is_tuple_of (by kernel_rfl) (a_cons (v_ C 0 (by kernel_rfl)) (a_cons (i_ 2) a_nil rfl) rfl)) (fun _ => rfl))) (t_or1 (t_not (t_truB C.at_ (gx_all_ C Dd [(("part" : Str), 3)] (by kernel_rfl) (show Z.lookup ("all" : Str) = some GV.bi by kernel_rfl) (by kernel_rfl) (by kernel_rfl) (i_seq C.at_ (v_ C 0 (by kernel_rfl))) (fun C => ⟨(gn_ C 3 (by kernel_rfl)), ts_nil, (e_fn C 19 (r := r_is_number) (by kernel_rfl) rfl b_is_number (by kernel_rfl) (a_cons (v_ C 3 (by kernel_rfl)) a_nil rfl))⟩)) (fun _ => rfl)))))) (s_one (s_ret (b_ false))) s_nil) (s_cons (s_asg (ws := [1, 2]) (v_ C 0 (by kernel_rfl)) (g_tup C.at_ (gs_cons (gn_ C 1 (by kernel_rfl)) (gs_cons (gn_ C 2 (by kernel_rfl)) gs_nil rfl) rfl) rfl rfl) rfl rfl rfl) (s_one (s_ret (e_and C.at_ (e_cmp (op_intB op_ge) (v_ C 2 (by kernel_rfl)) (i_ 1) rfl) (e_one (e_cmp (o_eq C.at_) (mf_ C (c_gcd) (by kernel_rfl) (by kernel_rfl) (a_cons (v_ C 1 (by kernel_rfl)) (a_cons (v_ C 2 (by kernel_rfl)) a_nil rfl) rfl)) (i_ 1) rfl)))))))
theorem ok_is_fraction_not_0 {X : Cx} {g : Cfg} {W : WX} {n : Nat} (P : Px X) (tp : Tp X) (C : Ct X B Z g W (lv n) N_is_fraction_not_0 (defScope s_is_fraction_not_0).names) (Dd : Dp X g (lv n) (some false)) : PSs X (defBody s_is_fraction_not_0) (ts g W m_is_fraction_not_0) :=
  (s_one (s_ret (e_and C.at_ (e_fn C 21 (r := r_is_fraction) (by kernel_rfl) rfl b_is_fraction (by kernel_rfl) (a_cons (v_ C 0 (by kernel_rfl)) a_nil rfl)) (e_one (e_cmp (o_ne C.at_) (e_ixB C.at_ (v_ C 0 (by kernel_rfl)) (i_ 0) (fun _ _ => rfl)) (i_ 0) rfl)))))
theorem ok_rises {X : Cx} {g : Cfg} {W : WX} {n : Nat} (P : Px X) (tp : Tp X) (C : Ct X B Z g W (lv n) N_rises (defScope s_rises).names) (Dd : Dp X g (lv n) (some true)) : PSs X (defBody s_rises) (ts g W m_rises) :=
  (s_one (s_ret (gx_all_ C Dd [(("low" : Str), 1), (("high" : Str), 2)] (by kernel_rfl) (show Z.lookup ("all" : Str) = some GV.bi by kernel_rfl) (by kernel_rfl) (by kernel_rfl) (i_zipA C.at_ (C.glob (by kernel_rfl)) (C.nm _ _ (show Z.lookup ("zip" : Str) = some GV.bi by kernel_rfl)) (a_cons (v_ C 0 (by kernel_rfl)) (a_cons (e_sl C.at_ (v_ C 0 (by kernel_rfl)) (o_some (i_ 1)) o_none) a_nil rfl) rfl) rfl rfl) (fun C => ⟨(g_tup C.at_ (gs_cons (gn_ C 1 (by kernel_rfl)) (gs_cons (gn_ C 2 (by kernel_rfl)) gs_nil rfl) rfl) rfl rfl), ts_nil, (e_cmp (o_lt C.at_) (v_ C 1 (by kernel_rfl)) (v_ C 2 (by kernel_rfl)) rfl)⟩))))
theorem ok_is_gain {X : Cx} {g : Cfg} {W : WX} {n : Nat} (P : Px X) (tp : Tp X) (C : Ct X B Z g W (lv n) N_is_gain (defScope s_is_gain).names) (Dd : Dp X g (lv n) (some false)) : PSs X (defBody s_is_gain) (ts g W m_is_gain) :=
  (s_cons (s_if (t_not (t_truB C.at_ (e_fn C 20 (r := r_is_tuple_of) (by kernel_rfl) rfl b_is_tuple_of (by kernel_rfl) (a_cons (v_ C 0 (by kernel_rfl)) (a_cons (i_ 3) a_nil rfl) rfl)) (fun _ => rfl))) (s_one (s_ret (b_ false))) s_nil) (s_cons (s_asg (ws := [1, 2, 3]) (v_ C 0 (by kernel_rfl)) (g_tup C.at_ (gs_cons (gn_ C 1 (by kernel_rfl)) (gs_cons (gn_ C 2 (by kernel_rfl)) (gs_cons (gn_ C 3 (by kernel_rfl)) gs_nil rfl) rfl) rfl) rfl rfl) rfl rfl rfl) (s_cons (s_if (PW.pt (t_or (t_not (t_truB C.at_ (e_fn C 19 (r := r_is_number) (by kernel_rfl) rfl b_is_number (by kernel_rfl) (a_cons (v_ C 1 (by kernel_rfl)) a_nil rfl)) (fun _ => rfl))) (t_or (t_not (t_truB C.at_ (e_fn C 19 (r := r_is_number) (by kernel_rfl) rfl b_is_number (by kernel_rfl) (a_cons (v_ C 2 (by kernel_rfl)) a_nil rfl)) (fun _ => rfl))) (t_or (t_cmp (o_lt C.at_) (v_ C 1 (by kernel_rfl)) (i_ 1) rfl) (t_or1 (t_cmp (o_lt C.at_) (v_ C 2 (by kernel_rfl)) (i_ 1) rfl)))))) (s_one (s_ret (b_ false))) s_nil) (s_one (s_ret (e_fn C 25 (r := r_are_held) (by kernel_rfl) rfl b_are_held (by kernel_rfl) (a_cons (v_ C 3 (by kernel_rfl)) (a_cons (v_ C 1 (by kernel_rfl)) (a_cons (v_ C 2 (by kernel_rfl)) a_nil rfl) rfl) rfl)))))))
theorem ok_are_held {X : Cx} {g : Cfg} {W : WX} {n : Nat} (P : Px X) (tp : Tp X) (C : Ct X B Z g W (lv n) N_are_held (defScope s_are_held).names) (Dd : Dp X g (lv n) (some true)) : PSs X (defBody s_are_held) (ts g W m_are_held) :=
  (s_cons (s_if (PW.pt (t_or (t_not (t_truB C.at_ (isi1 C 3 (by kernel_rfl) (by kernel_rfl) (by kernel_rfl) (by decide) (by kernel_rfl) (by kernel_rfl) (v_ C 0 (by kernel_rfl))) (fun _ => rfl))) (t_or1 (t_not (t_truB C.at_ (gx_all_ C Dd [(("pair" : Str), 3)] (by kernel_rfl) (show Z.lookup ("all" : Str) = some GV.bi by kernel_rfl) (by kernel_rfl) (by kernel_rfl) (i_seq C.at_ (v_ C 0 (by kernel_rfl))) (fun C => ⟨(gn_ C 3 (by kernel_rfl)), ts_nil, (e_fn C 26 (r := r_is_held) (by kernel_rfl) rfl b_is_held (by kernel_rfl) (a_cons (v_ C 3 (by kernel_rfl)) (a_cons (v_ C 1 (by kernel_rfl)) (a_cons (v_ C 2 (by kernel_rfl)) a_nil rfl) rfl) rfl))⟩)) (fun _ => rfl)))))) (s_one (s_ret (b_ false))) s_nil) (s_one (s_ret (e_fn C 23 (r := r_rises) (by kernel_rfl) rfl b_rises (by kernel_rfl) (a_cons (lc_ C [(("word" : Str), 4), (("_" : Str), 5)] (by kernel_rfl) (i_seq C.at_ (v_ C 0 (by kernel_rfl))) (fun C => ⟨(g_tup C.at_ (gs_cons (gn_ C 4 (by kernel_rfl)) (gs_cons (gn_ C 5 (by kernel_rfl)) gs_nil rfl) rfl) rfl rfl), ts_nil, (v_ C 4 (by kernel_rfl))⟩)) a_nil rfl)))))
theorem ok_is_held {X : Cx} {g : Cfg} {W : WX} {n : Nat} (P : Px X) (tp : Tp X) (C : Ct X B Z g W (lv n) N_is_held (defScope s_is_held).names) (Dd : Dp X g (lv n) (some false)) : PSs X (defBody s_is_held) (ts g W m_is_held) :=
  (s_cons (s_if (PW.pt (t_or (t_not (t_truB C.at_ (e_fn C 20 (r := r_is_tuple_of) (by kernel_rfl) rfl b_is_tuple_of (by kernel_rfl) (a_cons (v_ C 0 (by kernel_rfl)) (a_cons (i_ 2) a_nil rfl) rfl)) (fun _ => rfl))) (t_or1 (t_not (t_truB C.at_ (e_fn C 20 (r := r_is_tuple_of) (by kernel_rfl) rfl b_is_tuple_of (by kernel_rfl) (a_cons (e_ixB C.at_ (v_ C 0 (by kernel_rfl)) (i_ 0) (fun _ _ => rfl)) (a_cons (v_ C 2 (by kernel_rfl)) a_nil rfl) rfl)) (fun _ => rfl)))))) (s_one (s_ret (b_ false))) s_nil) (s_one (s_ret (e_and C.at_ (e_fn C 27 (r := r_are_letters) (by kernel_rfl) rfl b_are_letters (by kernel_rfl) (a_cons (e_ixB C.at_ (v_ C 0 (by kernel_rfl)) (i_ 0) (fun _ _ => rfl)) (a_cons (v_ C 1 (by kernel_rfl)) a_nil rfl) rfl)) (e_one (e_fn C 22 (r := r_is_fraction_not_0) (by kernel_rfl) rfl b_is_fraction_not_0 (by kernel_rfl) (a_cons (e_ixB C.at_ (v_ C 0 (by kernel_rfl)) (i_ 1) (fun _ _ => rfl)) a_nil rfl)))))))
theorem ok_are_letters {X : Cx} {g : Cfg} {W : WX} {n : Nat} (P : Px X) (tp : Tp X) (C : Ct X B Z g W (lv n) N_are_letters (defScope s_are_letters).names) (Dd : Dp X g (lv n) (some true)) : PSs X (defBody s_are_letters) (ts g W m_are_letters) :=
  (s_one (s_ret (gx_all_ C Dd [(("letter" : Str), 2)] (by kernel_rfl) (show Z.lookup ("all" : Str) = some GV.bi by kernel_rfl) (by kernel_rfl) (by kernel_rfl) (i_seq C.at_ (v_ C 0 (by kernel_rfl))) (fun C => ⟨(gn_ C 2 (by kernel_rfl)), ts_nil, (e_and C.at_ (e_fn C 19 (r := r_is_number) (by kernel_rfl) rfl b_is_number (by kernel_rfl) (a_cons (v_ C 2 (by kernel_rfl)) a_nil rfl)) (e_one (e_chain (o_le C.at_) (o_lt C.at_) (i_ 0) (v_ C 2 (by kernel_rfl)) (v_ C 1 (by kernel_rfl)) rfl)))⟩))))
theorem ok_is_stream {X : Cx} {g : Cfg} {W : WX} {n : Nat} (P : Px X) (tp : Tp X) (C : Ct X B Z g W (lv n) N_is_stream (defScope s_is_stream).names) (Dd : Dp X g (lv n) (some true)) : PSs X (defBody s_is_stream) (ts g W m_is_stream) :=
  (s_cons (s_if (PW.pt (t_or (t_not (t_truB C.at_ (e_fn C 24 (r := r_is_gain) (by kernel_rfl) rfl b_is_gain (by kernel_rfl) (a_cons (v_ C 0 (by kernel_rfl)) a_nil rfl)) (fun _ => rfl))) (t_or (t_truB C.at_ (gx_any_ C Dd [(("_" : Str), 2), (("x" : Str), 3)] (by kernel_rfl) (show Z.lookup ("any" : Str) = some GV.bi by kernel_rfl) (by kernel_rfl) (by kernel_rfl) (i_seq C.at_ (e_ixB C.at_ (v_ C 0 (by kernel_rfl)) (i_ 2) (fun _ _ => rfl))) (fun C => ⟨(g_tup C.at_ (gs_cons (gn_ C 2 (by kernel_rfl)) (gs_cons (gn_ C 3 (by kernel_rfl)) gs_nil rfl) rfl) rfl rfl), ts_nil, (e_cmp (o_lt C.at_) (e_ixB C.at_ (v_ C 3 (by kernel_rfl)) (i_ 0) (fun _ _ => rfl)) (i_ 0) rfl)⟩)) (fun _ => rfl)) (t_or1 (t_cmp (o_ne C.at_) (e_fn C 6 (r := r_total) (by kernel_rfl) rfl b_total (by kernel_rfl) (a_cons (lc_ C [(("_" : Str), 2), (("x" : Str), 3)] (by kernel_rfl) (i_seq C.at_ (e_ixB C.at_ (v_ C 0 (by kernel_rfl)) (i_ 2) (fun _ _ => rfl))) (fun C => ⟨(g_tup C.at_ (gs_cons (gn_ C 2 (by kernel_rfl)) (gs_cons (gn_ C 3 (by kernel_rfl)) gs_nil rfl) rfl) rfl rfl), ts_nil, (v_ C 3 (by kernel_rfl))⟩)) a_nil rfl)) (k_ C (D.tup [(D.int 1), (D.int 1)]) (by kernel_rfl) (by kernel_rfl)) rfl))))) (s_one (s_ret (b_ false))) s_nil) (s_cons (s_asg (ws := [1]) (e_fn C 11 (r := r_sums_by_key) (by kernel_rfl) rfl b_sums_by_key (by kernel_rfl) (a_cons (lc_ C [(("word" : Str), 4), (("x" : Str), 3)] (by kernel_rfl) (i_seq C.at_ (e_ixB C.at_ (v_ C 0 (by kernel_rfl)) (i_ 2) (fun _ _ => rfl))) (fun C => ⟨(g_tup C.at_ (gs_cons (gn_ C 4 (by kernel_rfl)) (gs_cons (gn_ C 3 (by kernel_rfl)) gs_nil rfl) rfl) rfl rfl), ts_nil, (e_tup (a_cons (e_sl C.at_ (v_ C 4 (by kernel_rfl)) o_none (o_some (e_un o_neg (i_ 1)))) (a_cons (v_ C 3 (by kernel_rfl)) a_nil rfl) rfl))⟩)) a_nil rfl)) (gn_ C 1 (by kernel_rfl)) rfl rfl rfl) (s_one (s_ret (e_cmp (o_eqD C.at_) (v_ C 1 (by kernel_rfl)) (e_fn C 11 (r := r_sums_by_key) (by kernel_rfl) rfl b_sums_by_key (by kernel_rfl) (a_cons (lc_ C [(("word" : Str), 4), (("x" : Str), 3)] (by kernel_rfl) (i_seq C.at_ (e_ixB C.at_ (v_ C 0 (by kernel_rfl)) (i_ 2) (fun _ _ => rfl))) (fun C => ⟨(g_tup C.at_ (gs_cons (gn_ C 4 (by kernel_rfl)) (gs_cons (gn_ C 3 (by kernel_rfl)) gs_nil rfl) rfl) rfl rfl), ts_nil, (e_tup (a_cons (e_sl C.at_ (v_ C 4 (by kernel_rfl)) (o_some (i_ 1)) o_none) (a_cons (v_ C 3 (by kernel_rfl)) a_nil rfl) rfl))⟩)) a_nil rfl)) rfl)))))
theorem ok_table_of {X : Cx} {g : Cfg} {W : WX} {n : Nat} (P : Px X) (tp : Tp X) (C : Ct X B Z g W (lv n) N_table_of (defScope s_table_of).names) (Dd : Dp X g (lv n) (some false)) : PSs X (defBody s_table_of) (ts g W m_table_of) :=
  (s_one (s_ret (dctT_ C [(("word" : Str), 1), (("x" : Str), 2)] (by kernel_rfl) (i_seq C.at_ (v_ C 0 (by kernel_rfl))) (fun C => ⟨(g_tup C.at_ (gs_cons (gn_ C 1 (by kernel_rfl)) (gs_cons (gn_ C 2 (by kernel_rfl)) gs_nil rfl) rfl) rfl rfl), ts_nil, (v_ C 1 (by kernel_rfl)), (v_ C 2 (by kernel_rfl))⟩))))
theorem ok_words_of {X : Cx} {g : Cfg} {W : WX} {n : Nat} (P : Px X) (tp : Tp X) (C : Ct X B Z g W (lv n) N_words_of (defScope s_words_of).names) (Dd : Dp X g (lv n) (some false)) : PSs X (defBody s_words_of) (ts g W m_words_of) :=
  (s_cons (s_asg (ws := [2]) (e_lst (a_cons (e_tup a_nil) a_nil rfl)) (gn_ C 2 (by kernel_rfl)) rfl rfl rfl) (s_cons (s_for (ws := [3]) C.at_ (i_rng1 C.at_ (C.glob (by kernel_rfl)) (C.nm _ _ (show Z.lookup ("range" : Str) = some GV.bi by kernel_rfl)) (a_cons (v_ C 1 (by kernel_rfl)) a_nil rfl) rfl) (gn_ C 3 (by kernel_rfl)) (s_one (set_list2_ C 2 (by kernel_rfl) (by kernel_rfl) (by kernel_rfl) (by kernel_rfl)  [(("word" : Str), 4), (("letter" : Str), 5)] [5] (by kernel_rfl) (by kernel_rfl) (i_seq C.at_ (v_ C 2 (by kernel_rfl))) (fun C => ⟨(gn_ C 4 (by kernel_rfl)), ts_nil, (i_rng1 C.at_ (C.glob (by kernel_rfl)) (C.nm _ _ (show Z.lookup ("range" : Str) = some GV.bi by kernel_rfl)) (a_cons (v_ C 0 (by kernel_rfl)) a_nil rfl) rfl), (gn_ C 5 (by kernel_rfl)), ts_nil, (e_op (o_add C.at_) (v_ C 4 (by kernel_rfl)) (e_tup (a_cons (v_ C 5 (by kernel_rfl)) a_nil rfl)))⟩))) (fun _ => rfl)) (s_one (s_ret (v_ C 2 (by kernel_rfl))))))
theorem ok_round_at {X : Cx} {g : Cfg} {W : WX} {n : Nat} (P : Px X) (tp : Tp X) (C : Ct X B Z g W (lv n) N_round_at (defScope s_round_at).names) (Dd : Dp X g (lv n) (some false)) : PSs X (defBody s_round_at) (ts g W m_round_at) :=
  (s_one (s_ret (ty_ C (c_tuple C.at_) (by kernel_rfl) (by kernel_rfl) (by kernel_rfl) (a_cons (lc_ C [(("k" : Str), 3)] (by kernel_rfl) (i_rng1 C.at_ (C.glob (by kernel_rfl)) (C.nm _ _ (show Z.lookup ("range" : Str) = some GV.bi by kernel_rfl)) (a_cons (v_ C 2 (by kernel_rfl)) a_nil rfl) rfl) (fun C => ⟨(gn_ C 3 (by kernel_rfl)), ts_nil, (e_ixB C.at_ (v_ C 0 (by kernel_rfl)) (e_op (o_mod) (e_op (o_add C.at_) (v_ C 1 (by kernel_rfl)) (v_ C 3 (by kernel_rfl))) (bi_ C (c_len C.at_) (by kernel_rfl) (by kernel_rfl) (by kernel_rfl) (a_cons (v_ C 0 (by kernel_rfl)) a_nil rfl))) (fun _ _ => rfl))⟩)) a_nil rfl))))
theorem ok_ring_gain {X : Cx} {g : Cfg} {W : WX} {n : Nat} (P : Px X) (tp : Tp X) (C : Ct X B Z g W (lv n) N_ring_gain (defScope s_ring_gain).names) (Dd : Dp X g (lv n) (some false)) : PSs X (defBody s_ring_gain) (ts g W m_ring_gain) :=
  (s_cons (s_asg (ws := [3, 4, 5]) (e_fn C 18 (r := r_as_tuples) (by kernel_rfl) rfl b_as_tuples (by kernel_rfl) (a_cons (v_ C 0 (by kernel_rfl)) a_nil rfl)) (g_tup C.at_ (gs_cons (gn_ C 3 (by kernel_rfl)) (gs_cons (gn_ C 4 (by kernel_rfl)) (gs_cons (gn_ C 5 (by kernel_rfl)) gs_nil rfl) rfl) rfl) rfl rfl) rfl rfl rfl) (s_cons (s_asg (ws := [2]) (e_fn C 29 (r := r_table_of) (by kernel_rfl) rfl b_table_of (by kernel_rfl) (a_cons (v_ C 5 (by kernel_rfl)) a_nil rfl)) (gn_ C 2 (by kernel_rfl)) rfl rfl rfl) (s_one (s_ret (e_fn C 6 (r := r_total) (by kernel_rfl) rfl b_total (by kernel_rfl) (a_cons (lc_ C [(("place" : Str), 6)] (by kernel_rfl) (i_rng1 C.at_ (C.glob (by kernel_rfl)) (C.nm _ _ (show Z.lookup ("range" : Str) = some GV.bi by kernel_rfl)) (a_cons (bi_ C (c_len C.at_) (by kernel_rfl) (by kernel_rfl) (by kernel_rfl) (a_cons (v_ C 1 (by kernel_rfl)) a_nil rfl)) a_nil rfl) rfl) (fun C => ⟨(gn_ C 6 (by kernel_rfl)), ts_nil, (e_get2 C.at_ (v_ C 2 (by kernel_rfl)) (e_fn C 31 (r := r_round_at) (by kernel_rfl) rfl b_round_at (by kernel_rfl) (a_cons (v_ C 1 (by kernel_rfl)) (a_cons (v_ C 6 (by kernel_rfl)) (a_cons (v_ C 4 (by kernel_rfl)) a_nil rfl) rfl) rfl)) (k_ C (D.tup [(D.int 0), (D.int 1)]) (by kernel_rfl) (by kernel_rfl)) ⟨rfl, rfl, rfl, rfl⟩)⟩)) a_nil rfl))))))
theorem ok_step_gain {X : Cx} {g : Cfg} {W : WX} {n : Nat} (P : Px X) (tp : Tp X) (C : Ct X B Z g W (lv n) N_step_gain (defScope s_step_gain).names) (Dd : Dp X g (lv n) (some false)) : PSs X (defBody s_step_gain) (ts g W m_step_gain) :=
  (s_cons (s_asg (ws := [2, 3, 4]) (e_fn C 18 (r := r_as_tuples) (by kernel_rfl) rfl b_as_tuples (by kernel_rfl) (a_cons (v_ C 0 (by kernel_rfl)) a_nil rfl)) (g_tup C.at_ (gs_cons (gn_ C 2 (by kernel_rfl)) (gs_cons (gn_ C 3 (by kernel_rfl)) (gs_cons (gn_ C 4 (by kernel_rfl)) gs_nil rfl) rfl) rfl) rfl rfl) rfl rfl rfl) (s_cons (s_asg (ws := [5, 6, 7]) (e_fn C 18 (r := r_as_tuples) (by kernel_rfl) rfl b_as_tuples (by kernel_rfl) (a_cons (v_ C 1 (by kernel_rfl)) a_nil rfl)) (g_tup C.at_ (gs_cons (gn_ C 5 (by kernel_rfl)) (gs_cons (gn_ C 6 (by kernel_rfl)) (gs_cons (gn_ C 7 (by kernel_rfl)) gs_nil rfl) rfl) rfl) rfl rfl) rfl rfl rfl) (s_cons (s_if (t_cmp (o_ne C.at_) (v_ C 2 (by kernel_rfl)) (v_ C 5 (by kernel_rfl)) rfl) (s_one (s_raise0 C P.z_Unfit (by kernel_rfl))) s_nil) (s_one (s_ret (e_fn C 6 (r := r_total) (by kernel_rfl) rfl b_total (by kernel_rfl) (a_cons (lc_ C [(("word" : Str), 8), (("x" : Str), 9)] (by kernel_rfl) (i_seq C.at_ (v_ C 4 (by kernel_rfl))) (fun C => ⟨(g_tup C.at_ (gs_cons (gn_ C 8 (by kernel_rfl)) (gs_cons (gn_ C 9 (by kernel_rfl)) gs_nil rfl) rfl) rfl rfl), ts_nil, (e_fn C 3 (r := r_times) (by kernel_rfl) rfl b_times (by kernel_rfl) (a_cons (v_ C 9 (by kernel_rfl)) (a_cons (e_fn C 34 (r := r_word_chance) (by kernel_rfl) rfl b_word_chance (by kernel_rfl) (a_cons (v_ C 7 (by kernel_rfl)) (a_cons (v_ C 6 (by kernel_rfl)) (a_cons (v_ C 8 (by kernel_rfl)) a_nil rfl) rfl) rfl)) a_nil rfl) rfl))⟩)) a_nil rfl)))))))
theorem ok_word_chance {X : Cx} {g : Cfg} {W : WX} {n : Nat} (P : Px X) (tp : Tp X) (C : Ct X B Z g W (lv n) N_word_chance (defScope s_word_chance).names) (Dd : Dp X g (lv n) (some false)) : PSs X (defBody s_word_chance) (ts g W m_word_chance) :=
  (s_cons (s_asg (ws := [3]) (e_fn C 35 (r := r_begun) (by kernel_rfl) rfl b_begun (by kernel_rfl) (a_cons (v_ C 0 (by kernel_rfl)) (a_cons (e_sl C.at_ (v_ C 2 (by kernel_rfl)) o_none (o_some (v_ C 1 (by kernel_rfl)))) a_nil rfl) rfl)) (gn_ C 3 (by kernel_rfl)) rfl rfl rfl) (s_cons (s_for (ws := [4]) C.at_ (i_rng2 C.at_ (C.glob (by kernel_rfl)) (C.nm _ _ (show Z.lookup ("range" : Str) = some GV.bi by kernel_rfl)) (a_cons (i_ 1) (a_cons (e_op (o_add C.at_) (e_op (o_sub) (bi_ C (c_len C.at_) (by kernel_rfl) (by kernel_rfl) (by kernel_rfl) (a_cons (v_ C 2 (by kernel_rfl)) a_nil rfl)) (v_ C 1 (by kernel_rfl))) (i_ 1)) a_nil rfl) rfl) rfl rfl) (gn_ C 4 (by kernel_rfl)) (s_cons (s_if (t_cmp (o_eq C.at_) (v_ C 3 (by kernel_rfl)) (k_ C (D.tup [(D.int 0), (D.int 1)]) (by kernel_rfl) (by kernel_rfl)) rfl) (s_one (s_ret (k_ C (D.tup [(D.int 0), (D.int 1)]) (by kernel_rfl) (by kernel_rfl)))) s_nil) (s_cons (s_asg (ws := [5]) (e_sl C.at_ (v_ C 2 (by kernel_rfl)) (o_some (v_ C 4 (by kernel_rfl))) (o_some (e_op (o_add C.at_) (v_ C 4 (by kernel_rfl)) (v_ C 1 (by kernel_rfl))))) (gn_ C 5 (by kernel_rfl)) rfl rfl rfl) (s_one (s_asg (ws := [3]) (e_fn C 3 (r := r_times) (by kernel_rfl) rfl b_times (by kernel_rfl) (a_cons (v_ C 3 (by kernel_rfl)) (a_cons (e_fn C 4 (r := r_over) (by kernel_rfl) rfl b_over (by kernel_rfl) (a_cons (e_fn C 35 (r := r_begun) (by kernel_rfl) rfl b_begun (by kernel_rfl) (a_cons (v_ C 0 (by kernel_rfl)) (a_cons (v_ C 5 (by kernel_rfl)) a_nil rfl) rfl)) (a_cons (e_fn C 35 (r := r_begun) (by kernel_rfl) rfl b_begun (by kernel_rfl) (a_cons (v_ C 0 (by kernel_rfl)) (a_cons (e_sl C.at_ (v_ C 5 (by kernel_rfl)) o_none (o_some (e_un o_neg (i_ 1)))) a_nil rfl) rfl)) a_nil rfl) rfl)) a_nil rfl) rfl)) (gn_ C 3 (by kernel_rfl)) rfl rfl rfl)))) (fun _ => rfl)) (s_one (s_ret (v_ C 3 (by kernel_rfl))))))
theorem ok_begun {X : Cx} {g : Cfg} {W : WX} {n : Nat} (P : Px X) (tp : Tp X) (C : Ct X B Z g W (lv n) N_begun (defScope s_begun).names) (Dd : Dp X g (lv n) (some false)) : PSs X (defBody s_begun) (ts g W m_begun) :=
  (s_one (s_ret (e_fn C 6 (r := r_total) (by kernel_rfl) rfl b_total (by kernel_rfl) (a_cons (lc_ C [(("other" : Str), 2), (("x" : Str), 3)] (by kernel_rfl) (i_seq C.at_ (v_ C 0 (by kernel_rfl))) (fun C => ⟨(g_tup C.at_ (gs_cons (gn_ C 2 (by kernel_rfl)) (gs_cons (gn_ C 3 (by kernel_rfl)) gs_nil rfl) rfl) rfl rfl), (ts_one (t_cmp (o_eq C.at_) (e_sl C.at_ (v_ C 2 (by kernel_rfl)) o_none (o_some (bi_ C (c_len C.at_) (by kernel_rfl) (by kernel_rfl) (by kernel_rfl) (a_cons (v_ C 1 (by kernel_rfl)) a_nil rfl)))) (v_ C 1 (by kernel_rfl)) rfl)), (v_ C 3 (by kernel_rfl))⟩)) a_nil rfl))))
theorem ok_store {X : Cx} {g : Cfg} {W : WX} {n : Nat} (P : Px X) (tp : Tp X) (C : Ct X B Z g W (lv n) N_store (defScope s_store).names) (Dd : Dp X g (lv n) (some false)) : PSs X (defBody s_store) (ts g W m_store) :=
  (s_cons (s_asg (ws := [0]) (e_fn C 18 (r := r_as_tuples) (by kernel_rfl) rfl b_as_tuples (by kernel_rfl) (a_cons (v_ C 0 (by kernel_rfl)) a_nil rfl)) (gn_ C 0 (by kernel_rfl)) rfl rfl rfl) (s_cons (s_asg (ws := [4, 5, 6]) (v_ C 0 (by kernel_rfl)) (g_tup C.at_ (gs_cons (gn_ C 4 (by kernel_rfl)) (gs_cons (gn_ C 5 (by kernel_rfl)) (gs_cons (gn_ C 6 (by kernel_rfl)) gs_nil rfl) rfl) rfl) rfl rfl) rfl rfl rfl) (s_cons (s_asg (ws := [1]) (e_fn C 29 (r := r_table_of) (by kernel_rfl) rfl b_table_of (by kernel_rfl) (a_cons (v_ C 6 (by kernel_rfl)) a_nil rfl)) (gn_ C 1 (by kernel_rfl)) rfl rfl rfl) (s_cons (s_asg (ws := [2]) (e_lst a_nil) (gn_ C 2 (by kernel_rfl)) rfl rfl rfl) (s_cons (s_for (ws := [3]) C.at_ (i_seq C.at_ (e_fn C 30 (r := r_words_of) (by kernel_rfl) rfl b_words_of (by kernel_rfl) (a_cons (v_ C 4 (by kernel_rfl)) (a_cons (e_op (o_sub) (v_ C 5 (by kernel_rfl)) (i_ 1)) a_nil rfl) rfl))) (gn_ C 3 (by kernel_rfl)) (s_cons (s_asg (ws := [7]) (e_op (o_add C.at_) (e_op (o_mulA C.at_) (e_tup (a_cons (i_ 0) a_nil rfl)) (e_op (o_sub) (v_ C 5 (by kernel_rfl)) (i_ 1))) (v_ C 3 (by kernel_rfl))) (gn_ C 7 (by kernel_rfl)) rfl rfl rfl) (s_cons (s_asg (ws := [8]) (e_fn C 6 (r := r_total) (by kernel_rfl) rfl b_total (by kernel_rfl) (a_cons (lc_ C [(("place" : Str), 9)] (by kernel_rfl) (i_rng1 C.at_ (C.glob (by kernel_rfl)) (C.nm _ _ (show Z.lookup ("range" : Str) = some GV.bi by kernel_rfl)) (a_cons (e_op (o_sub) (v_ C 5 (by kernel_rfl)) (i_ 1)) a_nil rfl) rfl) (fun C => ⟨(gn_ C 9 (by kernel_rfl)), ts_nil, (e_get2 C.at_ (v_ C 1 (by kernel_rfl)) (e_sl C.at_ (v_ C 7 (by kernel_rfl)) (o_some (v_ C 9 (by kernel_rfl))) (o_some (e_op (o_add C.at_) (v_ C 9 (by kernel_rfl)) (v_ C 5 (by kernel_rfl))))) (k_ C (D.tup [(D.int 0), (D.int 1)]) (by kernel_rfl) (by kernel_rfl)) ⟨rfl, rfl, rfl, rfl⟩)⟩)) a_nil rfl)) (gn_ C 8 (by kernel_rfl)) rfl rfl rfl) (s_one (s_if (t_cmp (o_ne C.at_) (v_ C 8 (by kernel_rfl)) (k_ C (D.tup [(D.int 0), (D.int 1)]) (by kernel_rfl) (by kernel_rfl)) rfl) (s_one (s_expr (e_mt C.at_ PySem.F.slot_list_append PySem.F.type_list_append mt_append app_s (v_ C 2 (by kernel_rfl)) (a_cons (e_tup (a_cons (v_ C 3 (by kernel_rfl)) (a_cons (v_ C 8 (by kernel_rfl)) a_nil rfl) rfl)) a_nil rfl)) rfl)) s_nil)))) (fun _ => rfl)) (s_cons (s_if (t_not (t_truB C.at_ (e_fn C 37 (r := r_is_store) (by kernel_rfl) rfl b_is_store (by kernel_rfl) (a_cons (v_ C 0 (by kernel_rfl)) (a_cons (ty_ C (c_tuple C.at_) (by kernel_rfl) (by kernel_rfl) (by kernel_rfl) (a_cons (v_ C 2 (by kernel_rfl)) a_nil rfl)) a_nil rfl) rfl)) (fun _ => rfl))) (s_one (s_raise0 C P.z_CanNot (by kernel_rfl))) s_nil) (s_one (s_ret (ty_ C (c_tuple C.at_) (by kernel_rfl) (by kernel_rfl) (by kernel_rfl) (a_cons (v_ C 2 (by kernel_rfl)) a_nil rfl))))))))))
theorem ok_is_store {X : Cx} {g : Cfg} {W : WX} {n : Nat} (P : Px X) (tp : Tp X) (C : Ct X B Z g W (lv n) N_is_store (defScope s_is_store).names) (Dd : Dp X g (lv n) (some true)) : PSs X (defBody s_is_store) (ts g W m_is_store) :=
  (s_cons (s_asg (ws := [2]) (e_fn C 38 (r := r_steps_by) (by kernel_rfl) rfl b_steps_by (by kernel_rfl) (a_cons (v_ C 0 (by kernel_rfl)) (a_cons (v_ C 1 (by kernel_rfl)) a_nil rfl) rfl)) (gn_ C 2 (by kernel_rfl)) rfl rfl rfl) (s_one (s_ret (e_and C.at_ (e_cmp (o_isN) (v_ C 2 (by kernel_rfl)) n_ rfl) (e_one (gx_all_ C Dd [(("x" : Str), 3), (("before" : Str), 4), (("after" : Str), 5)] (by kernel_rfl) (show Z.lookup ("all" : Str) = some GV.bi by kernel_rfl) (by kernel_rfl) (by kernel_rfl) (i_seq C.at_ (v_ C 2 (by kernel_rfl))) (fun C => ⟨(g_tup C.at_ (gs_cons (gn_ C 3 (by kernel_rfl)) (gs_cons (gn_ C 4 (by kernel_rfl)) (gs_cons (gn_ C 5 (by kernel_rfl)) gs_nil rfl) rfl) rfl) rfl rfl), ts_nil, (e_cmp (o_eq C.at_) (e_fn C 2 (r := r_less) (by kernel_rfl) rfl b_less (by kernel_rfl) (a_cons (v_ C 5 (by kernel_rfl)) (a_cons (v_ C 4 (by kernel_rfl)) a_nil rfl) rfl)) (v_ C 3 (by kernel_rfl)) rfl)⟩)))))))
theorem ok_steps_by {X : Cx} {g : Cfg} {W : WX} {n : Nat} (P : Px X) (tp : Tp X) (C : Ct X B Z g W (lv n) N_steps_by (defScope s_steps_by).names) (Dd : Dp X g (lv n) (some false)) : PSs X (defBody s_steps_by) (ts g W m_steps_by) :=
  (s_cons (s_asg (ws := [2, 3, 4]) (e_fn C 18 (r := r_as_tuples) (by kernel_rfl) rfl b_as_tuples (by kernel_rfl) (a_cons (v_ C 0 (by kernel_rfl)) a_nil rfl)) (g_tup C.at_ (gs_cons (gn_ C 2 (by kernel_rfl)) (gs_cons (gn_ C 3 (by kernel_rfl)) (gs_cons (gn_ C 4 (by kernel_rfl)) gs_nil rfl) rfl) rfl) rfl rfl) rfl rfl rfl) (s_cons (s_if (t_not (t_truB C.at_ (e_fn C 25 (r := r_are_held) (by kernel_rfl) rfl b_are_held (by kernel_rfl) (a_cons (v_ C 1 (by kernel_rfl)) (a_cons (v_ C 2 (by kernel_rfl)) (a_cons (e_op (o_sub) (v_ C 3 (by kernel_rfl)) (i_ 1)) a_nil rfl) rfl) rfl)) (fun _ => rfl))) (s_one (s_ret n_)) s_nil) (s_cons (s_asg (ws := [5, 6]) (e_tup (a_cons (e_fn C 29 (r := r_table_of) (by kernel_rfl) rfl b_table_of (by kernel_rfl) (a_cons (v_ C 4 (by kernel_rfl)) a_nil rfl)) (a_cons (e_fn C 29 (r := r_table_of) (by kernel_rfl) rfl b_table_of (by kernel_rfl) (a_cons (v_ C 1 (by kernel_rfl)) a_nil rfl)) a_nil rfl) rfl)) (g_tup C.at_ (gs_cons (gn_ C 5 (by kernel_rfl)) (gs_cons (gn_ C 6 (by kernel_rfl)) gs_nil rfl) rfl) rfl rfl) rfl (swp_cell2 C (by kernel_rfl)) rfl) (s_one (s_ret (lc_ C [(("word" : Str), 7)] (by kernel_rfl) (i_seq C.at_ (e_fn C 30 (r := r_words_of) (by kernel_rfl) rfl b_words_of (by kernel_rfl) (a_cons (v_ C 2 (by kernel_rfl)) (a_cons (v_ C 3 (by kernel_rfl)) a_nil rfl) rfl))) (fun C => ⟨(gn_ C 7 (by kernel_rfl)), ts_nil, (e_tup (a_cons (e_get2 C.at_ (v_ C 5 (by kernel_rfl)) (v_ C 7 (by kernel_rfl)) (k_ C (D.tup [(D.int 0), (D.int 1)]) (by kernel_rfl) (by kernel_rfl)) ⟨rfl, rfl, rfl, rfl⟩) (a_cons (e_get2 C.at_ (v_ C 6 (by kernel_rfl)) (e_sl C.at_ (v_ C 7 (by kernel_rfl)) o_none (o_some (e_un o_neg (i_ 1)))) (k_ C (D.tup [(D.int 0), (D.int 1)]) (by kernel_rfl) (by kernel_rfl)) ⟨rfl, rfl, rfl, rfl⟩) (a_cons (e_get2 C.at_ (v_ C 6 (by kernel_rfl)) (e_sl C.at_ (v_ C 7 (by kernel_rfl)) (o_some (i_ 1)) o_none) (k_ C (D.tup [(D.int 0), (D.int 1)]) (by kernel_rfl) (by kernel_rfl)) ⟨rfl, rfl, rfl, rfl⟩) a_nil rfl) rfl) rfl))⟩)))))))
theorem ok_gaining_ring {X : Cx} {g : Cfg} {W : WX} {n : Nat} (P : Px X) (tp : Tp X) (C : Ct X B Z g W (lv n) N_gaining_ring (defScope s_gaining_ring).names) (Dd : Dp X g (lv n) (some false)) : PSs X (defBody s_gaining_ring) (ts g W m_gaining_ring) :=
  (s_cons (s_asg (ws := [2, 3, 4]) (e_fn C 18 (r := r_as_tuples) (by kernel_rfl) rfl b_as_tuples (by kernel_rfl) (a_cons (v_ C 0 (by kernel_rfl)) a_nil rfl)) (g_tup C.at_ (gs_cons (gn_ C 2 (by kernel_rfl)) (gs_cons (gn_ C 3 (by kernel_rfl)) (gs_cons (gn_ C 4 (by kernel_rfl)) gs_nil rfl) rfl) rfl) rfl rfl) rfl rfl rfl) (s_cons (s_for (ws := [1]) C.at_ (i_seq C.at_ (e_tup (a_cons (v_ C 4 (by kernel_rfl)) (a_cons (e_fn C 16 (r := r_scaled) (by kernel_rfl) rfl b_scaled (by kernel_rfl) (a_cons (v_ C 4 (by kernel_rfl)) (a_cons (e_tup (a_cons (e_un o_neg (i_ 1)) (a_cons (i_ 1) a_nil rfl) rfl)) a_nil rfl) rfl)) a_nil rfl) rfl))) (gn_ C 1 (by kernel_rfl)) (s_cons (s_asg (ws := [5]) (e_fn C 40 (r := r_most_ring) (by kernel_rfl) rfl b_most_ring (by kernel_rfl) (a_cons (e_tup (a_cons (v_ C 2 (by kernel_rfl)) (a_cons (v_ C 3 (by kernel_rfl)) (a_cons (v_ C 1 (by kernel_rfl)) a_nil rfl) rfl) rfl)) a_nil rfl)) (gn_ C 5 (by kernel_rfl)) rfl rfl rfl) (s_one (s_if (t_cmp (o_ne C.at_) (e_fn C 32 (r := r_ring_gain) (by kernel_rfl) rfl b_ring_gain (by kernel_rfl) (a_cons (v_ C 0 (by kernel_rfl)) (a_cons (v_ C 5 (by kernel_rfl)) a_nil rfl) rfl)) (k_ C (D.tup [(D.int 0), (D.int 1)]) (by kernel_rfl) (by kernel_rfl)) rfl) (s_one (s_ret (v_ C 5 (by kernel_rfl)))) s_nil))) (fun _ => rfl)) (s_one (s_ret n_))))
theorem ok_most_ring {X : Cx} {g : Cfg} {W : WX} {n : Nat} (P : Px X) (tp : Tp X) (C : Ct X B Z g W (lv n) N_most_ring (defScope s_most_ring).names) (Dd : Dp X g (lv n) (some false)) : PSs X (defBody s_most_ring) (ts g W m_most_ring) :=
  (s_cons (s_asg (ws := [0]) (e_fn C 18 (r := r_as_tuples) (by kernel_rfl) rfl b_as_tuples (by kernel_rfl) (a_cons (v_ C 0 (by kernel_rfl)) a_nil rfl)) (gn_ C 0 (by kernel_rfl)) rfl rfl rfl) (s_cons (s_asg (ws := [1]) (e_fn C 41 (r := r_most_walks) (by kernel_rfl) rfl b_most_walks (by kernel_rfl) (a_cons (v_ C 0 (by kernel_rfl)) a_nil rfl)) (gn_ C 1 (by kernel_rfl)) rfl rfl rfl) (s_cons (s_asg (ws := [2]) (ty_ C (c_listA C.at_) (by kernel_rfl) (by kernel_rfl) (by kernel_rfl) (a_cons (e_ixB C.at_ (v_ C 1 (by kernel_rfl)) (e_un o_neg (i_ 1)) (fun _ _ => rfl)) a_nil rfl)) (gn_ C 2 (by kernel_rfl)) rfl rfl rfl) (s_cons (s_asg (ws := [3]) (e_ixB C.at_ (v_ C 2 (by kernel_rfl)) (i_ 0) (fun _ _ => rfl)) (gn_ C 3 (by kernel_rfl)) rfl rfl rfl) (s_cons (s_for (ws := [4]) C.at_ (i_seq C.at_ (e_sl C.at_ (v_ C 2 (by kernel_rfl)) (o_some (i_ 1)) o_none)) (gn_ C 4 (by kernel_rfl)) (s_one (s_if (t_truB C.at_ (e_fn C 5 (r := r_is_below) (by kernel_rfl) rfl b_is_below (by kernel_rfl) (a_cons (e_fn C 42 (r := r_least_rise) (by kernel_rfl) rfl b_least_rise (by kernel_rfl) (a_cons (v_ C 1 (by kernel_rfl)) (a_cons (v_ C 3 (by kernel_rfl)) a_nil rfl) rfl)) (a_cons (e_fn C 42 (r := r_least_rise) (by kernel_rfl) rfl b_least_rise (by kernel_rfl) (a_cons (v_ C 1 (by kernel_rfl)) (a_cons (v_ C 4 (by kernel_rfl)) a_nil rfl) rfl)) a_nil rfl) rfl)) (fun _ => rfl)) (s_one (s_asg (ws := [3]) (v_ C 4 (by kernel_rfl)) (gn_ C 3 (by kernel_rfl)) rfl rfl rfl)) s_nil)) (fun _ => rfl)) (s_cons (par2_ C 5 6 (by kernel_rfl) (by kernel_rfl) (by kernel_rfl) (by kernel_rfl) (by kernel_rfl) (by kernel_rfl) (by kernel_rfl) (a_cons (e_lst a_nil) (a_cons (e_op (o_sub) (bi_ C (c_len C.at_) (by kernel_rfl) (by kernel_rfl) (by kernel_rfl) (a_cons (v_ C 1 (by kernel_rfl)) a_nil rfl)) (i_ 1)) a_nil rfl) rfl)) (s_cons (s_while C.at_.po (t_cmp (o_notinB C.at_) (v_ C 3 (by kernel_rfl)) (lc_ C [(("word" : Str), 7)] (by kernel_rfl) (i_seq C.at_ (v_ C 5 (by kernel_rfl))) (fun C => ⟨(gn_ C 7 (by kernel_rfl)), ts_nil, (e_sl C.at_ (v_ C 7 (by kernel_rfl)) (o_some (i_ 1)) o_none)⟩)) rfl) (s_cons (s_expr (e_mt C.at_ PySem.F.slot_list_append PySem.F.type_list_append mt_append app_s (v_ C 5 (by kernel_rfl)) (a_cons (e_ixB C.at_ (e_ixB C.at_ (e_ixB C.at_ (v_ C 1 (by kernel_rfl)) (v_ C 6 (by kernel_rfl)) (fun _ _ => rfl)) (v_ C 3 (by kernel_rfl)) (fun _ _ => rfl)) (i_ 1) (fun _ _ => rfl)) a_nil rfl)) rfl) (s_cons (s_asg (ws := [3]) (e_sl C.at_ (e_ixB C.at_ (v_ C 5 (by kernel_rfl)) (e_un o_neg (i_ 1)) (fun _ _ => rfl)) o_none (o_some (e_un o_neg (i_ 1)))) (gn_ C 3 (by kernel_rfl)) rfl rfl rfl) (s_one (s_augI C 6 ip_sub (by kernel_rfl) (i_ 1)))))) (s_cons (s_while C.at_.po (t_cmp (o_ne C.at_) (e_sl C.at_ (e_ixB C.at_ (v_ C 5 (by kernel_rfl)) (i_ 0) (fun _ _ => rfl)) (o_some (i_ 1)) o_none) (v_ C 3 (by kernel_rfl)) rfl) (s_one (s_asg (ws := [5]) (e_sl C.at_ (v_ C 5 (by kernel_rfl)) (o_some (i_ 1)) o_none) (gn_ C 5 (by kernel_rfl)) rfl rfl rfl))) (s_one (s_ret (ty_ C (c_tuple C.at_) (by kernel_rfl) (by kernel_rfl) (by kernel_rfl) (a_cons (lc_ C [(("word" : Str), 7)] (by kernel_rfl) (i_revE C.at_ (C.glob (by kernel_rfl)) (C.nm _ _ (show Z.lookup ("reversed" : Str) = some GV.bi by kernel_rfl)) (v_ C 5 (by kernel_rfl))) (fun C => ⟨(gn_ C 7 (by kernel_rfl)), ts_nil, (e_ixB C.at_ (v_ C 7 (by kernel_rfl)) (i_ 0) (fun _ _ => rfl))⟩)) a_nil rfl))))))))))))
theorem ok_most_walks {X : Cx} {g : Cfg} {W : WX} {n : Nat} (P : Px X) (tp : Tp X) (C : Ct X B Z g W (lv n) N_most_walks (defScope s_most_walks).names) (Dd : Dp X g (lv n) (some false)) : PSs X (defBody s_most_walks) (ts g W m_most_walks) :=
  (s_cons (s_asg (ws := [6, 7, 8]) (v_ C 0 (by kernel_rfl)) (g_tup C.at_ (gs_cons (gn_ C 6 (by kernel_rfl)) (gs_cons (gn_ C 7 (by kernel_rfl)) (gs_cons (gn_ C 8 (by kernel_rfl)) gs_nil rfl) rfl) rfl) rfl rfl) rfl rfl rfl) (s_cons (s_asg (ws := [1]) (e_fn C 9 (r := r_common_bottom) (by kernel_rfl) rfl b_common_bottom (by kernel_rfl) (a_cons (lc_ C [(("_" : Str), 4), (("x" : Str), 13)] (by kernel_rfl) (i_seq C.at_ (v_ C 8 (by kernel_rfl))) (fun C => ⟨(g_tup C.at_ (gs_cons (gn_ C 4 (by kernel_rfl)) (gs_cons (gn_ C 13 (by kernel_rfl)) gs_nil rfl) rfl) rfl rfl), ts_nil, (v_ C 13 (by kernel_rfl))⟩)) a_nil rfl)) (gn_ C 1 (by kernel_rfl)) rfl rfl rfl) (s_cons (set_dctT_ C 2 (by kernel_rfl) (by kernel_rfl) (C.swapD (by kernel_rfl) (by kernel_rfl) (by kernel_rfl)) [(("word" : Str), 9), (("x" : Str), 13)] (by kernel_rfl) (i_seq C.at_ (v_ C 8 (by kernel_rfl))) (fun C => ⟨(g_tup C.at_ (gs_cons (gn_ C 9 (by kernel_rfl)) (gs_cons (gn_ C 13 (by kernel_rfl)) gs_nil rfl) rfl) rfl rfl), ts_nil, (v_ C 9 (by kernel_rfl)), (e_fn C 10 (r := r_whole) (by kernel_rfl) rfl b_whole (by kernel_rfl) (a_cons (v_ C 13 (by kernel_rfl)) (a_cons (v_ C 1 (by kernel_rfl)) a_nil rfl) rfl))⟩)) (s_cons (par2_ C 5 10 (by kernel_rfl) (by kernel_rfl) (by kernel_rfl) (by kernel_rfl) (by kernel_rfl) (by kernel_rfl) (by kernel_rfl) (a_cons (e_fn C 30 (r := r_words_of) (by kernel_rfl) rfl b_words_of (by kernel_rfl) (a_cons (v_ C 6 (by kernel_rfl)) (a_cons (e_op (o_sub) (v_ C 7 (by kernel_rfl)) (i_ 1)) a_nil rfl) rfl)) (a_cons (e_fn C 30 (r := r_words_of) (by kernel_rfl) rfl b_words_of (by kernel_rfl) (a_cons (v_ C 6 (by kernel_rfl)) (a_cons (v_ C 7 (by kernel_rfl)) a_nil rfl) rfl)) a_nil rfl) rfl)) (s_cons (s_asg (ws := [3]) (e_lst (a_cons (dctT_ C [(("head" : Str), 14)] (by kernel_rfl) (i_seq C.at_ (v_ C 5 (by kernel_rfl))) (fun C => ⟨(gn_ C 14 (by kernel_rfl)), ts_nil, (v_ C 14 (by kernel_rfl)), (e_tup (a_cons (i_ 0) (a_cons n_ a_nil rfl) rfl))⟩)) a_nil rfl)) (gn_ C 3 (by kernel_rfl)) rfl rfl rfl) (s_cons (s_for (ws := [4]) C.at_ (i_seq C.at_ (v_ C 5 (by kernel_rfl))) (gn_ C 4 (by kernel_rfl)) (s_cons (s_asg (ws := [11]) (e_newD C.at_) (gn_ C 11 (by kernel_rfl)) rfl rfl rfl) (s_cons (s_for (ws := [9]) C.at_ (i_seq C.at_ (v_ C 10 (by kernel_rfl))) (gn_ C 9 (by kernel_rfl)) (s_cons (s_asg (ws := [12]) (e_op (o_add C.at_) (e_ixB C.at_ (e_ixB C.at_ (e_ixB C.at_ (v_ C 3 (by kernel_rfl)) (e_un o_neg (i_ 1)) (fun _ _ => rfl)) (e_sl C.at_ (v_ C 9 (by kernel_rfl)) o_none (o_some (e_un o_neg (i_ 1)))) (fun _ _ => rfl)) (i_ 0) (fun _ _ => rfl)) (e_get2 C.at_ (v_ C 2 (by kernel_rfl)) (v_ C 9 (by kernel_rfl)) (i_ 0) ⟨rfl, rfl, rfl, rfl⟩)) (gn_ C 12 (by kernel_rfl)) rfl rfl rfl) (s_one (s_if (PW.pt (t_or (t_cmp (o_notinB C.at_) (e_sl C.at_ (v_ C 9 (by kernel_rfl)) (o_some (i_ 1)) o_none) (v_ C 11 (by kernel_rfl)) rfl) (t_or1 (t_cmp (op_intB op_gt) (v_ C 12 (by kernel_rfl)) (e_ixB C.at_ (e_ixB C.at_ (v_ C 11 (by kernel_rfl)) (e_sl C.at_ (v_ C 9 (by kernel_rfl)) (o_some (i_ 1)) o_none) (fun _ _ => rfl)) (i_ 0) (fun _ _ => rfl)) rfl)))) (s_one (s_asg (ws := []) (e_tup (a_cons (v_ C 12 (by kernel_rfl)) (a_cons (v_ C 9 (by kernel_rfl)) a_nil rfl) rfl)) (g_subB C.at_ (v_ C 11 (by kernel_rfl)) (e_sl C.at_ (v_ C 9 (by kernel_rfl)) (o_some (i_ 1)) o_none)) rfl rfl rfl)) s_nil))) (fun _ => rfl)) (s_one (s_expr (e_mt C.at_ PySem.F.slot_list_append PySem.F.type_list_append mt_append app_s (v_ C 3 (by kernel_rfl)) (a_cons (v_ C 11 (by kernel_rfl)) a_nil rfl)) rfl)))) (fun _ => rfl)) (s_one (s_ret (v_ C 3 (by kernel_rfl))))))))))
theorem ok_least_rise {X : Cx} {g : Cfg} {W : WX} {n : Nat} (P : Px X) (tp : Tp X) (C : Ct X B Z g W (lv n) N_least_rise (defScope s_least_rise).names) (Dd : Dp X g (lv n) (some false)) : PSs X (defBody s_least_rise) (ts g W m_least_rise) :=
  (s_cons (s_asg (ws := [2]) (e_op (o_sub) (bi_ C (c_len C.at_) (by kernel_rfl) (by kernel_rfl) (by kernel_rfl) (a_cons (v_ C 0 (by kernel_rfl)) a_nil rfl)) (i_ 1)) (gn_ C 2 (by kernel_rfl)) rfl rfl rfl) (s_cons (s_asg (ws := [3]) n_ (gn_ C 3 (by kernel_rfl)) rfl rfl rfl) (s_cons (s_for (ws := [4]) C.at_ (i_rng1 C.at_ (C.glob (by kernel_rfl)) (C.nm _ _ (show Z.lookup ("range" : Str) = some GV.bi by kernel_rfl)) (a_cons (v_ C 2 (by kernel_rfl)) a_nil rfl) rfl) (gn_ C 4 (by kernel_rfl)) (s_cons (s_asg (ws := [5]) (e_fn C 0 (r := r_lowest) (by kernel_rfl) rfl b_lowest (by kernel_rfl) (a_cons (e_op (o_sub) (e_ixB C.at_ (e_ixB C.at_ (e_ixB C.at_ (v_ C 0 (by kernel_rfl)) (v_ C 2 (by kernel_rfl)) (fun _ _ => rfl)) (v_ C 1 (by kernel_rfl)) (fun _ _ => rfl)) (i_ 0) (fun _ _ => rfl)) (e_ixB C.at_ (e_ixB C.at_ (e_ixB C.at_ (v_ C 0 (by kernel_rfl)) (v_ C 4 (by kernel_rfl)) (fun _ _ => rfl)) (v_ C 1 (by kernel_rfl)) (fun _ _ => rfl)) (i_ 0) (fun _ _ => rfl))) (a_cons (e_op (o_sub) (v_ C 2 (by kernel_rfl)) (v_ C 4 (by kernel_rfl))) a_nil rfl) rfl)) (gn_ C 5 (by kernel_rfl)) rfl rfl rfl) (s_one (s_if (PW.pt (t_or (t_cmp (o_is) (v_ C 3 (by kernel_rfl)) n_ rfl) (t_or1 (t_truB C.at_ (e_fn C 5 (r := r_is_below) (by kernel_rfl) rfl b_is_below (by kernel_rfl) (a_cons (v_ C 5 (by kernel_rfl)) (a_cons (v_ C 3 (by kernel_rfl)) a_nil rfl) rfl)) (fun _ => rfl))))) (s_one (s_asg (ws := [3]) (v_ C 5 (by kernel_rfl)) (gn_ C 3 (by kernel_rfl)) rfl rfl rfl)) s_nil))) (fun _ => rfl)) (s_one (s_ret (v_ C 3 (by kernel_rfl)))))))
theorem ok_most_step {X : Cx} {g : Cfg} {W : WX} {n : Nat} (P : Px X) (tp : Tp X) (C : Ct X B Z g W (lv n) N_most_step (defScope s_most_step).names) (Dd : Dp X g (lv n) (some false)) : PSs X (defBody s_most_step) (ts g W m_most_step) :=
  (s_cons (s_asg (ws := [1]) (e_fn C 40 (r := r_most_ring) (by kernel_rfl) rfl b_most_ring (by kernel_rfl) (a_cons (v_ C 0 (by kernel_rfl)) a_nil rfl)) (gn_ C 1 (by kernel_rfl)) rfl rfl rfl) (s_one (s_ret (e_fn C 4 (r := r_over) (by kernel_rfl) rfl b_over (by kernel_rfl) (a_cons (e_fn C 32 (r := r_ring_gain) (by kernel_rfl) rfl b_ring_gain (by kernel_rfl) (a_cons (v_ C 0 (by kernel_rfl)) (a_cons (v_ C 1 (by kernel_rfl)) a_nil rfl) rfl)) (a_cons (e_tup (a_cons (bi_ C (c_len C.at_) (by kernel_rfl) (by kernel_rfl) (by kernel_rfl) (a_cons (v_ C 1 (by kernel_rfl)) a_nil rfl)) (a_cons (i_ 1) a_nil rfl) rfl)) a_nil rfl) rfl)))))
theorem ok_most_store {X : Cx} {g : Cfg} {W : WX} {n : Nat} (P : Px X) (tp : Tp X) (C : Ct X B Z g W (lv n) N_most_store (defScope s_most_store).names) (Dd : Dp X g (lv n) (some false)) : PSs X (defBody s_most_store) (ts g W m_most_store) :=
  (s_cons (par2_ C 0 1 (by kernel_rfl) (by kernel_rfl) (by kernel_rfl) (by kernel_rfl) (by kernel_rfl) (by kernel_rfl) (by kernel_rfl) (a_cons (e_fn C 18 (r := r_as_tuples) (by kernel_rfl) rfl b_as_tuples (by kernel_rfl) (a_cons (v_ C 0 (by kernel_rfl)) a_nil rfl)) (a_cons (e_fn C 18 (r := r_as_tuples) (by kernel_rfl) rfl b_as_tuples (by kernel_rfl) (a_cons (v_ C 1 (by kernel_rfl)) a_nil rfl)) a_nil rfl) rfl)) (s_cons (s_if (t_truB C.at_ (e_fn C 5 (r := r_is_below) (by kernel_rfl) rfl b_is_below (by kernel_rfl) (a_cons (v_ C 1 (by kernel_rfl)) (a_cons (e_fn C 43 (r := r_most_step) (by kernel_rfl) rfl b_most_step (by kernel_rfl) (a_cons (v_ C 0 (by kernel_rfl)) a_nil rfl)) a_nil rfl) rfl)) (fun _ => rfl)) (s_one (s_raise0 C P.z_CanNot (by kernel_rfl))) s_nil) (s_cons (s_asg (ws := [7, 8, 9]) (v_ C 0 (by kernel_rfl)) (g_tup C.at_ (gs_cons (gn_ C 7 (by kernel_rfl)) (gs_cons (gn_ C 8 (by kernel_rfl)) (gs_cons (gn_ C 9 (by kernel_rfl)) gs_nil rfl) rfl) rfl) rfl rfl) rfl rfl rfl) (s_cons (s_asg (ws := [2]) (e_fn C 9 (r := r_common_bottom) (by kernel_rfl) rfl b_common_bottom (by kernel_rfl) (a_cons (e_op (o_add C.at_) (lc_ C [(("_" : Str), 5), (("x" : Str), 14)] (by kernel_rfl) (i_seq C.at_ (v_ C 9 (by kernel_rfl))) (fun C => ⟨(g_tup C.at_ (gs_cons (gn_ C 5 (by kernel_rfl)) (gs_cons (gn_ C 14 (by kernel_rfl)) gs_nil rfl) rfl) rfl rfl), ts_nil, (v_ C 14 (by kernel_rfl))⟩)) (e_lst (a_cons (v_ C 1 (by kernel_rfl)) a_nil rfl))) a_nil rfl)) (gn_ C 2 (by kernel_rfl)) rfl rfl rfl) (s_cons (set_dctT_ C 3 (by kernel_rfl) (by kernel_rfl) (C.swapD (by kernel_rfl) (by kernel_rfl) (by kernel_rfl)) [(("word" : Str), 10), (("x" : Str), 14)] (by kernel_rfl) (i_seq C.at_ (v_ C 9 (by kernel_rfl))) (fun C => ⟨(g_tup C.at_ (gs_cons (gn_ C 10 (by kernel_rfl)) (gs_cons (gn_ C 14 (by kernel_rfl)) gs_nil rfl) rfl) rfl rfl), ts_nil, (v_ C 10 (by kernel_rfl)), (e_fn C 10 (r := r_whole) (by kernel_rfl) rfl b_whole (by kernel_rfl) (a_cons (v_ C 14 (by kernel_rfl)) (a_cons (v_ C 2 (by kernel_rfl)) a_nil rfl) rfl))⟩)) (s_cons (par2_ C 6 11 (by kernel_rfl) (by kernel_rfl) (by kernel_rfl) (by kernel_rfl) (by kernel_rfl) (by kernel_rfl) (by kernel_rfl) (a_cons (e_fn C 30 (r := r_words_of) (by kernel_rfl) rfl b_words_of (by kernel_rfl) (a_cons (v_ C 7 (by kernel_rfl)) (a_cons (e_op (o_sub) (v_ C 8 (by kernel_rfl)) (i_ 1)) a_nil rfl) rfl)) (a_cons (e_fn C 30 (r := r_words_of) (by kernel_rfl) rfl b_words_of (by kernel_rfl) (a_cons (v_ C 7 (by kernel_rfl)) (a_cons (v_ C 8 (by kernel_rfl)) a_nil rfl) rfl)) a_nil rfl) rfl)) (s_cons (s_asg (ws := [4]) (dctT_ C [(("head" : Str), 15)] (by kernel_rfl) (i_seq C.at_ (v_ C 6 (by kernel_rfl))) (fun C => ⟨(gn_ C 15 (by kernel_rfl)), ts_nil, (v_ C 15 (by kernel_rfl)), (i_ 0)⟩)) (gn_ C 4 (by kernel_rfl)) (swp_cellD C (by kernel_rfl)) rfl rfl) (s_cons (s_for (ws := [5]) C.at_ (i_seq C.at_ (v_ C 6 (by kernel_rfl))) (gn_ C 5 (by kernel_rfl)) (s_cons (set_dctT_ C 12 (by kernel_rfl) (by kernel_rfl) (C.swapD (by kernel_rfl) (by kernel_rfl) (by kernel_rfl)) [(("head" : Str), 15)] (by kernel_rfl) (i_seq C.at_ (v_ C 6 (by kernel_rfl))) (fun C => ⟨(gn_ C 15 (by kernel_rfl)), ts_nil, (v_ C 15 (by kernel_rfl)), (e_ixB C.at_ (v_ C 4 (by kernel_rfl)) (v_ C 15 (by kernel_rfl)) (fun _ _ => rfl))⟩)) (s_cons (s_for (ws := [10]) C.at_ (i_seq C.at_ (v_ C 11 (by kernel_rfl))) (gn_ C 10 (by kernel_rfl)) (s_cons (s_asg (ws := [13]) (e_op (o_sub) (e_op (o_add C.at_) (e_ixB C.at_ (v_ C 4 (by kernel_rfl)) (e_sl C.at_ (v_ C 10 (by kernel_rfl)) o_none (o_some (e_un o_neg (i_ 1)))) (fun _ _ => rfl)) (e_get2 C.at_ (v_ C 3 (by kernel_rfl)) (v_ C 10 (by kernel_rfl)) (i_ 0) ⟨rfl, rfl, rfl, rfl⟩)) (e_fn C 10 (r := r_whole) (by kernel_rfl) rfl b_whole (by kernel_rfl) (a_cons (v_ C 1 (by kernel_rfl)) (a_cons (v_ C 2 (by kernel_rfl)) a_nil rfl) rfl))) (gn_ C 13 (by kernel_rfl)) rfl rfl rfl) (s_one (s_asg (ws := []) (bi_ C (c_max2 C.at_) (by kernel_rfl) (by kernel_rfl) (by kernel_rfl) (a_cons (e_ixB C.at_ (v_ C 12 (by kernel_rfl)) (e_sl C.at_ (v_ C 10 (by kernel_rfl)) (o_some (i_ 1)) o_none) (fun _ _ => rfl)) (a_cons (v_ C 13 (by kernel_rfl)) a_nil rfl) rfl)) (g_subB C.at_ (v_ C 12 (by kernel_rfl)) (e_sl C.at_ (v_ C 10 (by kernel_rfl)) (o_some (i_ 1)) o_none)) rfl rfl rfl))) (fun _ => rfl)) (s_one (s_asg (ws := [4]) (v_ C 12 (by kernel_rfl)) (gn_ C 4 (by kernel_rfl)) rfl rfl rfl)))) (fun _ => rfl)) (s_one (s_ret (ty_ C (c_tuple C.at_) (by kernel_rfl) (by kernel_rfl) (by kernel_rfl) (a_cons (lc_ C [(("head" : Str), 15)] (by kernel_rfl) (i_seq C.at_ (v_ C 6 (by kernel_rfl))) (fun C => ⟨(gn_ C 15 (by kernel_rfl)), (ts_one (t_cmp (o_ne C.at_) (e_ixB C.at_ (v_ C 4 (by kernel_rfl)) (v_ C 15 (by kernel_rfl)) (fun _ _ => rfl)) (i_ 0) rfl)), (e_tup (a_cons (v_ C 15 (by kernel_rfl)) (a_cons (e_fn C 0 (r := r_lowest) (by kernel_rfl) rfl b_lowest (by kernel_rfl) (a_cons (e_ixB C.at_ (v_ C 4 (by kernel_rfl)) (v_ C 15 (by kernel_rfl)) (fun _ _ => rfl)) (a_cons (v_ C 2 (by kernel_rfl)) a_nil rfl) rfl)) a_nil rfl) rfl))⟩)) a_nil rfl))))))))))))
theorem ok_is_most_store {X : Cx} {g : Cfg} {W : WX} {n : Nat} (P : Px X) (tp : Tp X) (C : Ct X B Z g W (lv n) N_is_most_store (defScope s_is_most_store).names) (Dd : Dp X g (lv n) (some true)) : PSs X (defBody s_is_most_store) (ts g W m_is_most_store) :=
  (s_cons (s_asg (ws := [1, 3]) (e_tup (a_cons (e_fn C 38 (r := r_steps_by) (by kernel_rfl) rfl b_steps_by (by kernel_rfl) (a_cons (v_ C 0 (by kernel_rfl)) (a_cons (v_ C 2 (by kernel_rfl)) a_nil rfl) rfl)) (a_cons (e_fn C 18 (r := r_as_tuples) (by kernel_rfl) rfl b_as_tuples (by kernel_rfl) (a_cons (v_ C 1 (by kernel_rfl)) a_nil rfl)) a_nil rfl) rfl)) (g_tup C.at_ (gs_cons (gn_ C 3 (by kernel_rfl)) (gs_cons (gn_ C 1 (by kernel_rfl)) gs_nil rfl) rfl) rfl rfl) rfl (swp_cell2 C (by kernel_rfl)) rfl) (s_one (s_ret (e_and C.at_ (e_cmp (o_isN) (v_ C 3 (by kernel_rfl)) n_ rfl) (e_one (e_not C.at_ (gx_any_ C Dd [(("x" : Str), 4), (("before" : Str), 5), (("after" : Str), 6)] (by kernel_rfl) (show Z.lookup ("any" : Str) = some GV.bi by kernel_rfl) (by kernel_rfl) (by kernel_rfl) (i_seq C.at_ (v_ C 3 (by kernel_rfl))) (fun C => ⟨(g_tup C.at_ (gs_cons (gn_ C 4 (by kernel_rfl)) (gs_cons (gn_ C 5 (by kernel_rfl)) (gs_cons (gn_ C 6 (by kernel_rfl)) gs_nil rfl) rfl) rfl) rfl rfl), ts_nil, (e_fn C 5 (r := r_is_below) (by kernel_rfl) rfl b_is_below (by kernel_rfl) (a_cons (e_fn C 1 (r := r_plus) (by kernel_rfl) rfl b_plus (by kernel_rfl) (a_cons (v_ C 1 (by kernel_rfl)) (a_cons (v_ C 6 (by kernel_rfl)) a_nil rfl) rfl)) (a_cons (e_fn C 1 (r := r_plus) (by kernel_rfl) rfl b_plus (by kernel_rfl) (a_cons (v_ C 4 (by kernel_rfl)) (a_cons (v_ C 5 (by kernel_rfl)) a_nil rfl) rfl)) a_nil rfl) rfl))⟩))))))))
theorem ok_form_store {X : Cx} {g : Cfg} {W : WX} {n : Nat} (P : Px X) (tp : Tp X) (C : Ct X B Z g W (lv n) N_form_store (defScope s_form_store).names) (Dd : Dp X g (lv n) (some false)) : PSs X (defBody s_form_store) (ts g W m_form_store) :=
  (s_cons (s_asg (ws := [3]) (e_fn C 47 (r := r_cores_of) (by kernel_rfl) rfl b_cores_of (by kernel_rfl) (a_cons (e_fn C 18 (r := r_as_tuples) (by kernel_rfl) rfl b_as_tuples (by kernel_rfl) (a_cons (v_ C 0 (by kernel_rfl)) a_nil rfl)) a_nil rfl)) (gn_ C 3 (by kernel_rfl)) rfl rfl rfl) (s_cons (s_if (t_cmp (o_isN) (e_fn C 48 (r := r_any_core) (by kernel_rfl) rfl b_any_core (by kernel_rfl) (a_cons (v_ C 3 (by kernel_rfl)) a_nil rfl)) n_ rfl) (s_one (s_raise0 C P.z_CanNot (by kernel_rfl))) s_nil) (s_cons (s_asg (ws := [4]) (e_lst a_nil) (gn_ C 4 (by kernel_rfl)) rfl rfl rfl) (s_cons (s_for (ws := [5, 6]) C.at_ (i_items C.at_ (v_ C 3 (by kernel_rfl))) (g_tup C.at_ (gs_cons (gn_ C 5 (by kernel_rfl)) (gs_cons (gn_ C 6 (by kernel_rfl)) gs_nil rfl) rfl) rfl rfl) (s_cons (s_asg (ws := [7]) (k_ C (D.tup [(D.int 0), (D.int 1)]) (by kernel_rfl) (by kernel_rfl)) (gn_ C 7 (by kernel_rfl)) rfl rfl rfl) (s_one (s_for (ws := [8]) C.at_ (i_rng1 C.at_ (C.glob (by kernel_rfl)) (C.nm _ _ (show Z.lookup ("range" : Str) = some GV.bi by kernel_rfl)) (a_cons (e_op (o_sub) (v_ C 1 (by kernel_rfl)) (bi_ C (c_len C.at_) (by kernel_rfl) (by kernel_rfl) (by kernel_rfl) (a_cons (v_ C 5 (by kernel_rfl)) a_nil rfl))) a_nil rfl) rfl) (gn_ C 8 (by kernel_rfl)) (s_cons (s_asg (ws := [7]) (e_fn C 2 (r := r_less) (by kernel_rfl) rfl b_less (by kernel_rfl) (a_cons (v_ C 7 (by kernel_rfl)) (a_cons (e_get2 C.at_ (v_ C 6 (by kernel_rfl)) (v_ C 8 (by kernel_rfl)) (k_ C (D.tup [(D.int 0), (D.int 1)]) (by kernel_rfl) (by kernel_rfl)) ⟨rfl, rfl, rfl, rfl⟩) a_nil rfl) rfl)) (gn_ C 7 (by kernel_rfl)) rfl rfl rfl) (s_one (s_if (t_cmp (o_ne C.at_) (v_ C 7 (by kernel_rfl)) (k_ C (D.tup [(D.int 0), (D.int 1)]) (by kernel_rfl) (by kernel_rfl)) rfl) (s_one (s_expr (e_mt C.at_ PySem.F.slot_list_extend PySem.F.type_list_extend mt_extT (extT_s C.at_.K) (v_ C 4 (by kernel_rfl)) (a_cons (e_fn C 17 (r := r_placed) (by kernel_rfl) rfl b_placed (by kernel_rfl) (a_cons (e_tup (a_cons (e_tup (a_cons (v_ C 5 (by kernel_rfl)) (a_cons (v_ C 7 (by kernel_rfl)) a_nil rfl) rfl)) a_nil rfl)) (a_cons (v_ C 8 (by kernel_rfl)) (a_cons (e_op (o_sub) (e_op (o_sub) (e_op (o_sub) (v_ C 1 (by kernel_rfl)) (i_ 1)) (bi_ C (c_len C.at_) (by kernel_rfl) (by kernel_rfl) (by kernel_rfl) (a_cons (v_ C 5 (by kernel_rfl)) a_nil rfl))) (v_ C 8 (by kernel_rfl))) (a_cons (v_ C 2 (by kernel_rfl)) a_nil rfl) rfl) rfl) rfl)) a_nil rfl)) rfl)) s_nil))) (fun _ => rfl)))) (fun _ => rfl)) (s_one (s_ret (ty_ C (c_tuple C.at_) (by kernel_rfl) (by kernel_rfl) (by kernel_rfl) (a_cons (bi_ C (c_srtI C.at_) (by kernel_rfl) (by kernel_rfl) (by kernel_rfl) (a_cons (v_ C 4 (by kernel_rfl)) a_nil rfl)) a_nil rfl))))))))
theorem ok_cores_of {X : Cx} {g : Cfg} {W : WX} {n : Nat} (P : Px X) (tp : Tp X) (C : Ct X B Z g W (lv n) N_cores_of (defScope s_cores_of).names) (Dd : Dp X g (lv n) (some false)) : PSs X (defBody s_cores_of) (ts g W m_cores_of) :=
  (s_cons (s_asg (ws := [1]) (e_newD C.at_) (gn_ C 1 (by kernel_rfl)) rfl rfl rfl) (s_cons (s_for (ws := [2, 3]) C.at_ (i_seq C.at_ (v_ C 0 (by kernel_rfl))) (g_tup C.at_ (gs_cons (gn_ C 2 (by kernel_rfl)) (gs_cons (gn_ C 3 (by kernel_rfl)) gs_nil rfl) rfl) rfl rfl) (s_cons (setLc_ C 4 [(("sample" : Str), 8), (("own" : Str), 9)] (by kernel_rfl) (by kernel_rfl) (by kernel_rfl) (by kernel_rfl) (by kernel_rfl) (i_enumA C.at_ (C.glob (by kernel_rfl)) (C.nm _ _ (show Z.lookup ("enumerate" : Str) = some GV.bi by kernel_rfl)) (a_cons (v_ C 2 (by kernel_rfl)) a_nil rfl) rfl) (fun C => ⟨(g_tup C.at_ (gs_cons (gn_ C 8 (by kernel_rfl)) (gs_cons (gn_ C 9 (by kernel_rfl)) gs_nil rfl) rfl) rfl rfl), (ts_one (t_truB C.at_ (bi_ C (c_anyA C.at_) (by kernel_rfl) (by kernel_rfl) (by kernel_rfl) (a_cons (v_ C 9 (by kernel_rfl)) a_nil rfl)) (fun _ => rfl))), (v_ C 8 (by kernel_rfl))⟩)) (s_cons (s_asg (ws := [6, 7]) (e_if (t_truB C.at_ (v_ C 4 (by kernel_rfl)) (fun _ => rfl)) (e_tup (a_cons (e_ixB C.at_ (v_ C 4 (by kernel_rfl)) (i_ 0) (fun _ _ => rfl)) (a_cons (e_op (o_add C.at_) (e_ixB C.at_ (v_ C 4 (by kernel_rfl)) (e_un o_neg (i_ 1)) (fun _ _ => rfl)) (i_ 1)) a_nil rfl) rfl)) (e_tup (a_cons (i_ 0) (a_cons (i_ 0) a_nil rfl) rfl))) (g_tup C.at_ (gs_cons (gn_ C 6 (by kernel_rfl)) (gs_cons (gn_ C 7 (by kernel_rfl)) gs_nil rfl) rfl) rfl rfl) rfl rfl rfl) (s_cons (s_asg (ws := [5]) (e_sl C.at_ (v_ C 2 (by kernel_rfl)) (o_some (v_ C 6 (by kernel_rfl))) (o_some (v_ C 7 (by kernel_rfl)))) (gn_ C 5 (by kernel_rfl)) rfl rfl rfl) (s_cons (s_if (t_cmp (o_notinB C.at_) (v_ C 5 (by kernel_rfl)) (v_ C 1 (by kernel_rfl)) rfl) (s_one (s_asg (ws := []) (e_newI C.at_) (g_subB C.at_ (v_ C 1 (by kernel_rfl)) (v_ C 5 (by kernel_rfl))) rfl rfl rfl)) s_nil) (s_one (s_asg (ws := []) (v_ C 3 (by kernel_rfl)) (g_subB C.at_ (e_ixB C.at_ (v_ C 1 (by kernel_rfl)) (v_ C 5 (by kernel_rfl)) (fun _ _ => rfl)) (v_ C 6 (by kernel_rfl))) rfl rfl rfl)))))) (fun _ => rfl)) (s_one (s_ret (v_ C 1 (by kernel_rfl))))))
theorem ok_any_core {X : Cx} {g : Cfg} {W : WX} {n : Nat} (P : Px X) (tp : Tp X) (C : Ct X B Z g W (lv n) N_any_core (defScope s_any_core).names) (Dd : Dp X g (lv n) (some false)) : PSs X (defBody s_any_core) (ts g W m_any_core) :=
  (s_cons (s_for (ws := [1, 2]) C.at_ (i_items C.at_ (v_ C 0 (by kernel_rfl))) (g_tup C.at_ (gs_cons (gn_ C 1 (by kernel_rfl)) (gs_cons (gn_ C 2 (by kernel_rfl)) gs_nil rfl) rfl) rfl rfl) (s_one (s_if (t_cmp (o_ne C.at_) (e_fn C 6 (r := r_total) (by kernel_rfl) rfl b_total (by kernel_rfl) (a_cons (e_listV C (C.glob (by kernel_rfl)) (C.nm _ _ (show Z.lookup ("list" : Str) = some GV.bi by kernel_rfl)) (v_ C 2 (by kernel_rfl))) a_nil rfl)) (k_ C (D.tup [(D.int 0), (D.int 1)]) (by kernel_rfl) (by kernel_rfl)) rfl) (s_one (s_ret (v_ C 1 (by kernel_rfl)))) s_nil)) (fun _ => rfl)) (s_one (s_ret n_)))
theorem ok_ring_sum {X : Cx} {g : Cfg} {W : WX} {n : Nat} (P : Px X) (tp : Tp X) (C : Ct X B Z g W (lv n) N_ring_sum (defScope s_ring_sum).names) (Dd : Dp X g (lv n) (some false)) : PSs X (defBody s_ring_sum) (ts g W m_ring_sum) :=
  (s_cons (s_asg (ws := [0, 2]) (e_tup (a_cons (e_fn C 18 (r := r_as_tuples) (by kernel_rfl) rfl b_as_tuples (by kernel_rfl) (a_cons (v_ C 0 (by kernel_rfl)) a_nil rfl)) (a_cons (e_fn C 18 (r := r_as_tuples) (by kernel_rfl) rfl b_as_tuples (by kernel_rfl) (a_cons (v_ C 2 (by kernel_rfl)) a_nil rfl)) a_nil rfl) rfl)) (g_tup C.at_ (gs_cons (gn_ C 0 (by kernel_rfl)) (gs_cons (gn_ C 2 (by kernel_rfl)) gs_nil rfl) rfl) rfl rfl) rfl (swp_cell2 C (by kernel_rfl)) rfl) (s_one (s_ret (e_fn C 6 (r := r_total) (by kernel_rfl) rfl b_total (by kernel_rfl) (a_cons (lc_ C [(("place" : Str), 3)] (by kernel_rfl) (i_rng1 C.at_ (C.glob (by kernel_rfl)) (C.nm _ _ (show Z.lookup ("range" : Str) = some GV.bi by kernel_rfl)) (a_cons (bi_ C (c_len C.at_) (by kernel_rfl) (by kernel_rfl) (by kernel_rfl) (a_cons (v_ C 2 (by kernel_rfl)) a_nil rfl)) a_nil rfl) rfl) (fun C => ⟨(gn_ C 3 (by kernel_rfl)), ts_nil, (e_fn C 15 (r := r_value_at) (by kernel_rfl) rfl b_value_at (by kernel_rfl) (a_cons (v_ C 0 (by kernel_rfl)) (a_cons (e_fn C 31 (r := r_round_at) (by kernel_rfl) rfl b_round_at (by kernel_rfl) (a_cons (v_ C 2 (by kernel_rfl)) (a_cons (v_ C 3 (by kernel_rfl)) (a_cons (v_ C 1 (by kernel_rfl)) a_nil rfl) rfl) rfl)) a_nil rfl) rfl))⟩)) a_nil rfl)))))
theorem ok_form_ring {X : Cx} {g : Cfg} {W : WX} {n : Nat} (P : Px X) (tp : Tp X) (C : Ct X B Z g W (lv n) N_form_ring (defScope s_form_ring).names) (Dd : Dp X g (lv n) (some false)) : PSs X (defBody s_form_ring) (ts g W m_form_ring) :=
  (s_cons (s_asg (ws := [0]) (e_fn C 18 (r := r_as_tuples) (by kernel_rfl) rfl b_as_tuples (by kernel_rfl) (a_cons (v_ C 0 (by kernel_rfl)) a_nil rfl)) (gn_ C 0 (by kernel_rfl)) rfl rfl rfl) (s_cons (s_if (t_cmp (o_is) (e_fn C 48 (r := r_any_core) (by kernel_rfl) rfl b_any_core (by kernel_rfl) (a_cons (e_fn C 47 (r := r_cores_of) (by kernel_rfl) rfl b_cores_of (by kernel_rfl) (a_cons (v_ C 0 (by kernel_rfl)) a_nil rfl)) a_nil rfl)) n_ rfl) (s_one (s_ret n_)) s_nil) (s_cons (par2_ C 4 5 (by kernel_rfl) (by kernel_rfl) (by kernel_rfl) (by kernel_rfl) (by kernel_rfl) (by kernel_rfl) (by kernel_rfl) (a_cons (e_op (o_sub) (e_op (o_mulA C.at_) (i_ 2) (v_ C 1 (by kernel_rfl))) (i_ 1)) (a_cons (i_ 1) a_nil rfl) rfl)) (s_cons (s_asg (ws := [3]) (e_fn C 13 (r := r_free_rows) (by kernel_rfl) rfl b_free_rows (by kernel_rfl) (a_cons (i_ 1) (a_cons (v_ C 2 (by kernel_rfl)) (a_cons (i_ 1) a_nil rfl) rfl) rfl)) (gn_ C 3 (by kernel_rfl)) rfl rfl rfl) (s_cons (s_while C.at_.po (t_cmp (o_eq C.at_) (e_fn C 49 (r := r_ring_sum) (by kernel_rfl) rfl b_ring_sum (by kernel_rfl) (a_cons (v_ C 0 (by kernel_rfl)) (a_cons (v_ C 1 (by kernel_rfl)) (a_cons (v_ C 3 (by kernel_rfl)) a_nil rfl) rfl) rfl)) (k_ C (D.tup [(D.int 0), (D.int 1)]) (by kernel_rfl) (by kernel_rfl)) rfl) (s_cons (s_augI C 5 ip_add (by kernel_rfl) (i_ 1)) (s_one (s_asg (ws := [3]) (e_fn C 13 (r := r_free_rows) (by kernel_rfl) rfl b_free_rows (by kernel_rfl) (a_cons (bi_ C (c_min2 C.at_) (by kernel_rfl) (by kernel_rfl) (by kernel_rfl) (a_cons (v_ C 5 (by kernel_rfl)) (a_cons (v_ C 4 (by kernel_rfl)) a_nil rfl) rfl)) (a_cons (v_ C 2 (by kernel_rfl)) (a_cons (bi_ C (c_max2 C.at_) (by kernel_rfl) (by kernel_rfl) (by kernel_rfl) (a_cons (i_ 1) (a_cons (e_op (o_add C.at_) (e_op (o_sub) (v_ C 5 (by kernel_rfl)) (v_ C 4 (by kernel_rfl))) (i_ 1)) a_nil rfl) rfl)) a_nil rfl) rfl) rfl)) (gn_ C 3 (by kernel_rfl)) rfl rfl rfl)))) (s_one (s_ret (v_ C 3 (by kernel_rfl)))))))))
theorem ok__law_box {X : Cx} {g : Cfg} {W : WX} {n : Nat} (P : Px X) (tp : Tp X) (C : Ct X B Z g W (lv n) N__law_box (defScope s__law_box).names) (Dd : Dp X g (lv n) (some false)) : PSs X (defBody s__law_box) (ts g W m__law_box) :=
  (ok_box (k := 1315490) (s_cons (s_asg (ws := [2]) (e_if (t_cmp (o_lt C.at_) (v_ C 1 (by kernel_rfl)) (bi_ C (c_len C.at_) (by kernel_rfl) (by kernel_rfl) (by kernel_rfl) (a_cons (v_ C 0 (by kernel_rfl)) a_nil rfl)) rfl) (e_ixB C.at_ (v_ C 0 (by kernel_rfl)) (v_ C 1 (by kernel_rfl)) (fun _ _ => rfl)) (i_ 0)) (gn_ C 2 (by kernel_rfl)) rfl rfl rfl) (s_one (s_ret (e_lst (a_cons (e_op (o_mulA C.at_) (bi_ C (c_abs) (by kernel_rfl) (by kernel_rfl) (by kernel_rfl) (a_cons (v_ C 2 (by kernel_rfl)) a_nil rfl)) (ty_ C (c_int) (by kernel_rfl) (by kernel_rfl) (by kernel_rfl) (a_cons (e_cmp (op_intB op_ge) (bi_ C (c_abs) (by kernel_rfl) (by kernel_rfl) (by kernel_rfl) (a_cons (v_ C 2 (by kernel_rfl)) a_nil rfl)) (e_op (o_pow) (i_ 10) (i_ 18)) rfl) a_nil rfl))) (a_cons (e_op (o_add C.at_) (e_op (o_add C.at_) (e_op (o_mod) (ty_ C (c_int) (by kernel_rfl) (by kernel_rfl) (by kernel_rfl) (a_cons (v_ C 2 (by kernel_rfl)) a_nil rfl)) (i_ 2305843009213693951)) (e_op (o_mulA C.at_) (i_ 39373) (v_ C 1 (by kernel_rfl)))) (i_ 1315490)) (a_cons (i_ 0) a_nil rfl) rfl) rfl))))))
theorem ok__law_take {X : Cx} {g : Cfg} {W : WX} {n : Nat} (P : Px X) (tp : Tp X) (C : Ct X B Z g W (lv n) N__law_take (defScope s__law_take).names) (Dd : Dp X g (lv n) (some false)) : PSs X (defBody s__law_take) (ts g W m__law_take) :=
  (ok_take (s_cons (s_if (t_cmp (op_intB op_gt) (e_ixB C.at_ (v_ C 0 (by kernel_rfl)) (i_ 0) (fun _ _ => rfl)) (i_ 0) rfl) (s_cons (s_asg (ws := [5]) (e_op (o_mod) (ty_ C (c_int) (by kernel_rfl) (by kernel_rfl) (by kernel_rfl) (a_cons (e_ixB C.at_ (v_ C 0 (by kernel_rfl)) (i_ 0) (fun _ _ => rfl)) a_nil rfl)) (v_ C 1 (by kernel_rfl))) (gn_ C 5 (by kernel_rfl)) rfl rfl rfl) (s_cons (s_asg (ws := []) (e_op (o_fdiv) (e_ixB C.at_ (v_ C 0 (by kernel_rfl)) (i_ 0) (fun _ _ => rfl)) (v_ C 1 (by kernel_rfl))) (g_subB C.at_ (v_ C 0 (by kernel_rfl)) (i_ 0)) rfl rfl rfl) (s_one (s_ret (v_ C 5 (by kernel_rfl)))))) s_nil) (s_cons (s_asg (ws := []) (e_op (o_add C.at_) (e_ixB C.at_ (v_ C 0 (by kernel_rfl)) (i_ 2) (fun _ _ => rfl)) (i_ 1)) (g_subB C.at_ (v_ C 0 (by kernel_rfl)) (i_ 2)) rfl rfl rfl) (s_cons (s_asg (ws := [2]) (e_op (o_mod) (ty_ C (c_int) (by kernel_rfl) (by kernel_rfl) (by kernel_rfl) (a_cons (e_op (o_mulA C.at_) (e_op (o_add C.at_) (e_ixB C.at_ (v_ C 0 (by kernel_rfl)) (i_ 1) (fun _ _ => rfl)) (e_op (o_mulA C.at_) (i_ 48271) (e_ixB C.at_ (v_ C 0 (by kernel_rfl)) (i_ 2) (fun _ _ => rfl)))) (e_op (o_add C.at_) (i_ 39373) (e_ixB C.at_ (v_ C 0 (by kernel_rfl)) (i_ 2) (fun _ _ => rfl)))) a_nil rfl)) (i_ 2147483647)) (gn_ C 2 (by kernel_rfl)) rfl rfl rfl) (s_cons (s_asg (ws := [3]) (e_op (o_add C.at_) (e_op (o_mod) (ty_ C (c_int) (by kernel_rfl) (by kernel_rfl) (by kernel_rfl) (a_cons (v_ C 2 (by kernel_rfl)) a_nil rfl)) (i_ 40009)) (i_ 7)) (gn_ C 3 (by kernel_rfl)) rfl rfl rfl) (s_cons (s_asg (ws := [4]) (e_op (o_mod) (ty_ C (c_int) (by kernel_rfl) (by kernel_rfl) (by kernel_rfl) (a_cons (e_op (o_mulA C.at_) (e_op (o_add C.at_) (e_op (o_add C.at_) (v_ C 2 (by kernel_rfl)) (e_ixB C.at_ (v_ C 0 (by kernel_rfl)) (i_ 2) (fun _ _ => rfl))) (e_op (o_fdiv) (e_ixB C.at_ (v_ C 0 (by kernel_rfl)) (i_ 1) (fun _ _ => rfl)) (i_ 1000003))) (v_ C 3 (by kernel_rfl))) a_nil rfl)) (i_ 2147483629)) (gn_ C 4 (by kernel_rfl)) rfl rfl rfl) (s_one (s_ret (e_op (o_mod) (ty_ C (c_int) (by kernel_rfl) (by kernel_rfl) (by kernel_rfl) (a_cons (e_op (o_fdiv) (e_op (o_mod) (ty_ C (c_int) (by kernel_rfl) (by kernel_rfl) (by kernel_rfl) (a_cons (e_op (o_add C.at_) (e_op (o_mulA C.at_) (v_ C 4 (by kernel_rfl)) (i_ 48271)) (v_ C 2 (by kernel_rfl))) a_nil rfl)) (i_ 2147483587)) (i_ 64)) a_nil rfl)) (v_ C 1 (by kernel_rfl)))))))))))
theorem ok__law_cells {X : Cx} {g : Cfg} {W : WX} {n : Nat} (P : Px X) (tp : Tp X) (C : Ct X B Z g W (lv n) N__law_cells (defScope s__law_cells).names) (Dd : Dp X g (lv n) (some false)) : PSs X (defBody s__law_cells) (ts g W m__law_cells) :=
  (ok_cells (s_cons (s_asg (ws := [2]) (e_or C.at_ (ty_ C (c_list C.at_) (by kernel_rfl) (by kernel_rfl) (by kernel_rfl) (a_cons (e_sl C.at_ (v_ C 0 (by kernel_rfl)) o_none (o_some (v_ C 1 (by kernel_rfl)))) a_nil rfl)) (e_one (e_lst (a_cons (i_ 0) a_nil rfl)))) (gn_ C 2 (by kernel_rfl)) rfl rfl rfl) (s_cons (s_for (ws := [3, 4]) C.at_ (i_enumA C.at_ (C.glob (by kernel_rfl)) (C.nm _ _ (show Z.lookup ("enumerate" : Str) = some GV.bi by kernel_rfl)) (a_cons (e_sl C.at_ (v_ C 0 (by kernel_rfl)) (o_some (v_ C 1 (by kernel_rfl))) (o_some (i_ 63))) a_nil rfl) rfl) (g_tup C.at_ (gs_cons (gn_ C 3 (by kernel_rfl)) (gs_cons (gn_ C 4 (by kernel_rfl)) gs_nil rfl) rfl) rfl rfl) (s_cons (s_asg (ws := [5]) (e_op (o_mod) (ty_ C (c_int) (by kernel_rfl) (by kernel_rfl) (by kernel_rfl) (a_cons (v_ C 3 (by kernel_rfl)) a_nil rfl)) (v_ C 1 (by kernel_rfl))) (gn_ C 5 (by kernel_rfl)) rfl rfl rfl) (s_one (s_asg (ws := []) (e_op (o_add C.at_) (e_ixB C.at_ (v_ C 2 (by kernel_rfl)) (v_ C 5 (by kernel_rfl)) (fun _ _ => rfl)) (e_op (o_mulA C.at_) (v_ C 4 (by kernel_rfl)) (e_op (o_add C.at_) (v_ C 3 (by kernel_rfl)) (i_ 2)))) (g_subB C.at_ (v_ C 2 (by kernel_rfl)) (v_ C 5 (by kernel_rfl))) rfl rfl rfl))) (fun _ => rfl)) (s_one (s_ret (v_ C 2 (by kernel_rfl)))))))
theorem ok__law_same {X : Cx} {g : Cfg} {W : WX} {n : Nat} (P : Px X) (tp : Tp X) (C : Ct X B Z g W (lv n) N__law_same (defScope s__law_same).names) (Dd : Dp X g (lv n) (some false)) : PSs X (defBody s__law_same) (ts g W m__law_same) :=
  (s_cons (s_if (t_truB C.at_ (isi2 C 4 3 (by kernel_rfl) (by kernel_rfl) (by kernel_rfl) (by decide) (by kernel_rfl) (by kernel_rfl) (by kernel_rfl) (by decide) (by kernel_rfl) (by kernel_rfl) (v_ C 1 (by kernel_rfl))) (fun _ => rfl)) (s_cons (s_if (t_cmp (o_ne C.at_) (isi1 C 4 (by kernel_rfl) (by kernel_rfl) (by kernel_rfl) (by decide) (by kernel_rfl) (by kernel_rfl) (v_ C 0 (by kernel_rfl))) (isi1 C 4 (by kernel_rfl) (by kernel_rfl) (by kernel_rfl) (by decide) (by kernel_rfl) (by kernel_rfl) (v_ C 1 (by kernel_rfl))) rfl) (s_one (s_ret (b_ false))) s_nil) (s_cons (s_if (t_cmp (o_ne C.at_) (isi1 C 3 (by kernel_rfl) (by kernel_rfl) (by kernel_rfl) (by decide) (by kernel_rfl) (by kernel_rfl) (v_ C 0 (by kernel_rfl))) (isi1 C 3 (by kernel_rfl) (by kernel_rfl) (by kernel_rfl) (by decide) (by kernel_rfl) (by kernel_rfl) (v_ C 1 (by kernel_rfl))) rfl) (s_one (s_ret (b_ false))) s_nil) (s_one (s_ret (e_and C.at_ (e_cmp (o_eq C.at_) (bi_ C (c_len C.at_) (by kernel_rfl) (by kernel_rfl) (by kernel_rfl) (a_cons (v_ C 0 (by kernel_rfl)) a_nil rfl)) (bi_ C (c_len C.at_) (by kernel_rfl) (by kernel_rfl) (by kernel_rfl) (a_cons (v_ C 1 (by kernel_rfl)) a_nil rfl)) rfl) (e_one (bi_ C (c_allA C.at_) (by kernel_rfl) (by kernel_rfl) (by kernel_rfl) (a_cons (lc_ C [(("a_so" : Str), 2), (("b_so" : Str), 3)] (by kernel_rfl) (i_zipA C.at_ (C.glob (by kernel_rfl)) (C.nm _ _ (show Z.lookup ("zip" : Str) = some GV.bi by kernel_rfl)) (a_cons (v_ C 0 (by kernel_rfl)) (a_cons (v_ C 1 (by kernel_rfl)) a_nil rfl) rfl) rfl rfl) (fun C => ⟨(g_tup C.at_ (gs_cons (gn_ C 2 (by kernel_rfl)) (gs_cons (gn_ C 3 (by kernel_rfl)) gs_nil rfl) rfl) rfl rfl), ts_nil, (e_fn C 54 (r := r__law_same) (by kernel_rfl) rfl b__law_same (by kernel_rfl) (a_cons (v_ C 2 (by kernel_rfl)) (a_cons (v_ C 3 (by kernel_rfl)) a_nil rfl) rfl))⟩)) a_nil rfl)))))))) s_nil) (s_cons (s_if (PW.pt (t_or (t_cmp (o_is) (v_ C 1 (by kernel_rfl)) n_ rfl) (t_or1 (t_truB C.at_ (isi2 C 1 2 (by kernel_rfl) (by kernel_rfl) (by kernel_rfl) (by decide) (by kernel_rfl) (by kernel_rfl) (by kernel_rfl) (by decide) (by kernel_rfl) (by kernel_rfl) (v_ C 1 (by kernel_rfl))) (fun _ => rfl))))) (s_one (s_ret (e_and C.at_ (e_cmp (o_eq C.at_) (v_ C 0 (by kernel_rfl)) (v_ C 1 (by kernel_rfl)) rfl) (e_and C.at_ (e_cmp (o_eq C.at_) (isi1 C 1 (by kernel_rfl) (by kernel_rfl) (by kernel_rfl) (by decide) (by kernel_rfl) (by kernel_rfl) (v_ C 0 (by kernel_rfl))) (isi1 C 1 (by kernel_rfl) (by kernel_rfl) (by kernel_rfl) (by decide) (by kernel_rfl) (by kernel_rfl) (v_ C 1 (by kernel_rfl))) rfl) (e_one (e_cmp (o_eq C.at_) (e_cmp (o_is) (v_ C 0 (by kernel_rfl)) n_ rfl) (e_cmp (o_is) (v_ C 1 (by kernel_rfl)) n_ rfl) rfl)))))) s_nil) (s_one (s_ret (e_and C.at_ (isi1 C 0 (by kernel_rfl) (by kernel_rfl) (by kernel_rfl) (by decide) (by kernel_rfl) (by kernel_rfl) (v_ C 0 (by kernel_rfl))) (e_and C.at_ (e_not C.at_ (isi1 C 1 (by kernel_rfl) (by kernel_rfl) (by kernel_rfl) (by decide) (by kernel_rfl) (by kernel_rfl) (v_ C 0 (by kernel_rfl)))) (e_one (e_cmp (o_eq C.at_) (v_ C 0 (by kernel_rfl)) (v_ C 1 (by kernel_rfl)) rfl))))))))
theorem ok__law_lists {X : Cx} {g : Cfg} {W : WX} {n : Nat} (P : Px X) (tp : Tp X) (C : Ct X B Z g W (lv n) N__law_lists (defScope s__law_lists).names) (Dd : Dp X g (lv n) (some false)) : PSs X (defBody s__law_lists) (ts g W m__law_lists) :=
  (s_one (s_ret (e_if (t_truB C.at_ (isi2 C 4 3 (by kernel_rfl) (by kernel_rfl) (by kernel_rfl) (by decide) (by kernel_rfl) (by kernel_rfl) (by kernel_rfl) (by decide) (by kernel_rfl) (by kernel_rfl) (v_ C 0 (by kernel_rfl))) (fun _ => rfl)) (lc_ C [(("bit" : Str), 1)] (by kernel_rfl) (i_seq C.at_ (v_ C 0 (by kernel_rfl))) (fun C => ⟨(gn_ C 1 (by kernel_rfl)), ts_nil, (e_fn C 55 (r := r__law_lists) (by kernel_rfl) rfl b__law_lists (by kernel_rfl) (a_cons (v_ C 1 (by kernel_rfl)) a_nil rfl))⟩)) (v_ C 0 (by kernel_rfl)))))
theorem ok__law_gcd {X : Cx} {g : Cfg} {W : WX} {n : Nat} (P : Px X) (tp : Tp X) (C : Ct X B Z g W (lv n) N__law_gcd (defScope s__law_gcd).names) (Dd : Dp X g (lv n) (some false)) : PSs X (defBody s__law_gcd) (ts g W m__law_gcd) :=
  (s_cons (s_while C.at_.po (t_cmp (o_ne C.at_) (v_ C 1 (by kernel_rfl)) (i_ 0) rfl) (s_one (par2_ C 0 1 (by kernel_rfl) (by kernel_rfl) (by kernel_rfl) (by kernel_rfl) (by kernel_rfl) (by kernel_rfl) (by kernel_rfl) (a_cons (v_ C 1 (by kernel_rfl)) (a_cons (e_op (o_mod) (ty_ C (c_int) (by kernel_rfl) (by kernel_rfl) (by kernel_rfl) (a_cons (v_ C 0 (by kernel_rfl)) a_nil rfl)) (v_ C 1 (by kernel_rfl))) a_nil rfl) rfl)))) (s_one (s_ret (bi_ C (c_abs) (by kernel_rfl) (by kernel_rfl) (by kernel_rfl) (a_cons (v_ C 0 (by kernel_rfl)) a_nil rfl)))))
theorem ok__law_fr {X : Cx} {g : Cfg} {W : WX} {n : Nat} (P : Px X) (tp : Tp X) (C : Ct X B Z g W (lv n) N__law_fr (defScope s__law_fr).names) (Dd : Dp X g (lv n) (some false)) : PSs X (defBody s__law_fr) (ts g W m__law_fr) :=
  (s_cons (s_asg (ws := [2]) (e_fn C 56 (r := r__law_gcd) (by kernel_rfl) rfl b__law_gcd (by kernel_rfl) (a_cons (v_ C 0 (by kernel_rfl)) (a_cons (v_ C 1 (by kernel_rfl)) a_nil rfl) rfl)) (gn_ C 2 (by kernel_rfl)) rfl rfl rfl) (s_one (s_ret (e_tup (a_cons (e_op (o_fdiv) (ty_ C (c_int) (by kernel_rfl) (by kernel_rfl) (by kernel_rfl) (a_cons (v_ C 0 (by kernel_rfl)) a_nil rfl)) (v_ C 2 (by kernel_rfl))) (a_cons (e_op (o_fdiv) (ty_ C (c_int) (by kernel_rfl) (by kernel_rfl) (by kernel_rfl) (a_cons (v_ C 1 (by kernel_rfl)) a_nil rfl)) (v_ C 2 (by kernel_rfl))) a_nil rfl) rfl)))))
theorem ok__law_add {X : Cx} {g : Cfg} {W : WX} {n : Nat} (P : Px X) (tp : Tp X) (C : Ct X B Z g W (lv n) N__law_add (defScope s__law_add).names) (Dd : Dp X g (lv n) (some false)) : PSs X (defBody s__law_add) (ts g W m__law_add) :=
  (s_one (s_ret (e_fn C 57 (r := r__law_fr) (by kernel_rfl) rfl b__law_fr (by kernel_rfl) (a_cons (e_op (o_add C.at_) (e_op (o_mulA C.at_) (e_ixB C.at_ (v_ C 0 (by kernel_rfl)) (i_ 0) (fun _ _ => rfl)) (e_ixB C.at_ (v_ C 1 (by kernel_rfl)) (i_ 1) (fun _ _ => rfl))) (e_op (o_mulA C.at_) (e_ixB C.at_ (v_ C 1 (by kernel_rfl)) (i_ 0) (fun _ _ => rfl)) (e_ixB C.at_ (v_ C 0 (by kernel_rfl)) (i_ 1) (fun _ _ => rfl)))) (a_cons (e_op (o_mulA C.at_) (e_ixB C.at_ (v_ C 0 (by kernel_rfl)) (i_ 1) (fun _ _ => rfl)) (e_ixB C.at_ (v_ C 1 (by kernel_rfl)) (i_ 1) (fun _ _ => rfl))) a_nil rfl) rfl))))
theorem ok__law_mul {X : Cx} {g : Cfg} {W : WX} {n : Nat} (P : Px X) (tp : Tp X) (C : Ct X B Z g W (lv n) N__law_mul (defScope s__law_mul).names) (Dd : Dp X g (lv n) (some false)) : PSs X (defBody s__law_mul) (ts g W m__law_mul) :=
  (s_one (s_ret (e_fn C 57 (r := r__law_fr) (by kernel_rfl) rfl b__law_fr (by kernel_rfl) (a_cons (e_op (o_mulA C.at_) (e_ixB C.at_ (v_ C 0 (by kernel_rfl)) (i_ 0) (fun _ _ => rfl)) (e_ixB C.at_ (v_ C 1 (by kernel_rfl)) (i_ 0) (fun _ _ => rfl))) (a_cons (e_op (o_mulA C.at_) (e_ixB C.at_ (v_ C 0 (by kernel_rfl)) (i_ 1) (fun _ _ => rfl)) (e_ixB C.at_ (v_ C 1 (by kernel_rfl)) (i_ 1) (fun _ _ => rfl))) a_nil rfl) rfl))))
theorem ok__law_sum {X : Cx} {g : Cfg} {W : WX} {n : Nat} (P : Px X) (tp : Tp X) (C : Ct X B Z g W (lv n) N__law_sum (defScope s__law_sum).names) (Dd : Dp X g (lv n) (some false)) : PSs X (defBody s__law_sum) (ts g W m__law_sum) :=
  (s_cons (s_asg (ws := [1]) (e_tup (a_cons (i_ 0) (a_cons (i_ 1) a_nil rfl) rfl)) (gn_ C 1 (by kernel_rfl)) rfl rfl rfl) (s_cons (s_for (ws := [2]) C.at_ (i_seq C.at_ (v_ C 0 (by kernel_rfl))) (gn_ C 2 (by kernel_rfl)) (s_one (s_asg (ws := [1]) (e_fn C 58 (r := r__law_add) (by kernel_rfl) rfl b__law_add (by kernel_rfl) (a_cons (v_ C 1 (by kernel_rfl)) (a_cons (v_ C 2 (by kernel_rfl)) a_nil rfl) rfl)) (gn_ C 1 (by kernel_rfl)) rfl rfl rfl)) (fun _ => rfl)) (s_one (s_ret (v_ C 1 (by kernel_rfl))))))
theorem ok__law_turned {X : Cx} {g : Cfg} {W : WX} {n : Nat} (P : Px X) (tp : Tp X) (C : Ct X B Z g W (lv n) N__law_turned (defScope s__law_turned).names) (Dd : Dp X g (lv n) (some false)) : PSs X (defBody s__law_turned) (ts g W m__law_turned) :=
  (s_cons (s_asg (ws := [2]) (e_op (o_mulA C.at_) (ty_ C (c_listA C.at_) (by kernel_rfl) (by kernel_rfl) (by kernel_rfl) (a_cons (v_ C 0 (by kernel_rfl)) a_nil rfl)) (e_op (o_add C.at_) (v_ C 1 (by kernel_rfl)) (i_ 1))) (gn_ C 2 (by kernel_rfl)) rfl rfl rfl) (s_one (s_ret (lc_ C [(("k" : Str), 3)] (by kernel_rfl) (i_rng1 C.at_ (C.glob (by kernel_rfl)) (C.nm _ _ (show Z.lookup ("range" : Str) = some GV.bi by kernel_rfl)) (a_cons (bi_ C (c_len C.at_) (by kernel_rfl) (by kernel_rfl) (by kernel_rfl) (a_cons (v_ C 0 (by kernel_rfl)) a_nil rfl)) a_nil rfl) rfl) (fun C => ⟨(gn_ C 3 (by kernel_rfl)), ts_nil, (ty_ C (c_tuple C.at_) (by kernel_rfl) (by kernel_rfl) (by kernel_rfl) (a_cons (e_sl C.at_ (v_ C 2 (by kernel_rfl)) (o_some (v_ C 3 (by kernel_rfl))) (o_some (e_op (o_add C.at_) (v_ C 3 (by kernel_rfl)) (v_ C 1 (by kernel_rfl))))) a_nil rfl))⟩)))))
theorem ok__law_gained {X : Cx} {g : Cfg} {W : WX} {n : Nat} (P : Px X) (tp : Tp X) (C : Ct X B Z g W (lv n) N__law_gained (defScope s__law_gained).names) (Dd : Dp X g (lv n) (some false)) : PSs X (defBody s__law_gained) (ts g W m__law_gained) :=
  (s_cons (s_asg (ws := [2]) (ty_ C (c_dictT C.at_) (by kernel_rfl) (by kernel_rfl) (by kernel_rfl) (a_cons (e_ixB C.at_ (e_dn1 (v_ C 0 (by kernel_rfl))) (i_ 2) (fun _ _ => rfl)) a_nil rfl)) (gn_ C 2 (by kernel_rfl)) rfl rfl rfl) (s_one (s_ret (e_fn C 60 (r := r__law_sum) (by kernel_rfl) rfl b__law_sum (by kernel_rfl) (a_cons (lc_ C [(("own" : Str), 3)] (by kernel_rfl) (i_seq C.at_ (e_fn C 61 (r := r__law_turned) (by kernel_rfl) rfl b__law_turned (by kernel_rfl) (a_cons (v_ C 1 (by kernel_rfl)) (a_cons (e_ixB C.at_ (e_dn1 (v_ C 0 (by kernel_rfl))) (i_ 1) (fun _ _ => rfl)) a_nil rfl) rfl))) (fun C => ⟨(gn_ C 3 (by kernel_rfl)), ts_nil, (e_get2 C.at_ (v_ C 2 (by kernel_rfl)) (v_ C 3 (by kernel_rfl)) (e_tup (a_cons (i_ 0) (a_cons (i_ 1) a_nil rfl) rfl)) ⟨rfl, rfl, rfl, rfl⟩)⟩)) a_nil rfl)))))
theorem ok__law_is_fr {X : Cx} {g : Cfg} {W : WX} {n : Nat} (P : Px X) (tp : Tp X) (C : Ct X B Z g W (lv n) N__law_is_fr (defScope s__law_is_fr).names) (Dd : Dp X g (lv n) (some false)) : PSs X (defBody s__law_is_fr) (ts g W m__law_is_fr) :=
  (s_cons (s_if (PW.pt (t_or (t_not (t_truB C.at_ (isi1 C 3 (by kernel_rfl) (by kernel_rfl) (by kernel_rfl) (by decide) (by kernel_rfl) (by kernel_rfl) (v_ C 0 (by kernel_rfl))) (fun _ => rfl))) (t_or1 (t_cmp (o_ne C.at_) (bi_ C (c_len C.at_) (by kernel_rfl) (by kernel_rfl) (by kernel_rfl) (a_cons (v_ C 0 (by kernel_rfl)) a_nil rfl)) (i_ 2) rfl)))) (s_one (s_ret (b_ false))) s_nil) (s_cons (s_if (t_cmp (o_ne C.at_) (lc_ C [(("bit" : Str), 1)] (by kernel_rfl) (i_seq C.at_ (v_ C 0 (by kernel_rfl))) (fun C => ⟨(gn_ C 1 (by kernel_rfl)), (ts_one (PW.pt (t_or (t_truB C.at_ (isi1 C 1 (by kernel_rfl) (by kernel_rfl) (by kernel_rfl) (by decide) (by kernel_rfl) (by kernel_rfl) (v_ C 1 (by kernel_rfl))) (fun _ => rfl)) (t_or1 (t_not (t_truB C.at_ (isi1 C 0 (by kernel_rfl) (by kernel_rfl) (by kernel_rfl) (by decide) (by kernel_rfl) (by kernel_rfl) (v_ C 1 (by kernel_rfl))) (fun _ => rfl))))))), (i_ 1)⟩)) (e_lst a_nil) rfl) (s_one (s_ret (b_ false))) s_nil) (s_one (s_ret (e_and C.at_ (e_cmp (op_intB op_gt) (e_ixB C.at_ (v_ C 0 (by kernel_rfl)) (i_ 1) (fun _ _ => rfl)) (i_ 0) rfl) (e_one (e_cmp (o_eq C.at_) (e_fn C 56 (r := r__law_gcd) (by kernel_rfl) rfl b__law_gcd (by kernel_rfl) (a_cons (e_ixB C.at_ (v_ C 0 (by kernel_rfl)) (i_ 0) (fun _ _ => rfl)) (a_cons (e_ixB C.at_ (v_ C 0 (by kernel_rfl)) (i_ 1) (fun _ _ => rfl)) a_nil rfl) rfl)) (i_ 1) rfl)))))))
theorem ok__law_is_ring {X : Cx} {g : Cfg} {W : WX} {n : Nat} (P : Px X) (tp : Tp X) (C : Ct X B Z g W (lv n) N__law_is_ring (defScope s__law_is_ring).names) (Dd : Dp X g (lv n) (some false)) : PSs X (defBody s__law_is_ring) (ts g W m__law_is_ring) :=
  (s_cons (s_if (PW.pt (t_or (t_not (t_truB C.at_ (isi1 C 3 (by kernel_rfl) (by kernel_rfl) (by kernel_rfl) (by decide) (by kernel_rfl) (by kernel_rfl) (v_ C 0 (by kernel_rfl))) (fun _ => rfl))) (t_or1 (t_cmp (o_eq C.at_) (v_ C 0 (by kernel_rfl)) (e_tup a_nil) rfl)))) (s_one (s_ret (b_ false))) s_nil) (s_one (s_ret (e_cmp (o_eq C.at_) (lc_ C [(("bit" : Str), 2)] (by kernel_rfl) (i_seq C.at_ (v_ C 0 (by kernel_rfl))) (fun C => ⟨(gn_ C 2 (by kernel_rfl)), (ts_one (PW.pt (t_or (t_truB C.at_ (isi1 C 1 (by kernel_rfl) (by kernel_rfl) (by kernel_rfl) (by decide) (by kernel_rfl) (by kernel_rfl) (v_ C 2 (by kernel_rfl))) (fun _ => rfl)) (t_or (t_not (t_truB C.at_ (isi1 C 0 (by kernel_rfl) (by kernel_rfl) (by kernel_rfl) (by decide) (by kernel_rfl) (by kernel_rfl) (v_ C 2 (by kernel_rfl))) (fun _ => rfl))) (t_or1 (t_not (t_chain (o_le C.at_) (o_lt C.at_) (i_ 0) (v_ C 2 (by kernel_rfl)) (v_ C 1 (by kernel_rfl)) rfl))))))), (i_ 1)⟩)) (e_lst a_nil) rfl))))
theorem ok__law_value {X : Cx} {g : Cfg} {W : WX} {n : Nat} (P : Px X) (tp : Tp X) (C : Ct X B Z g W (lv n) N__law_value (defScope s__law_value).names) (Dd : Dp X g (lv n) (some false)) : PSs X (defBody s__law_value) (ts g W m__law_value) :=
  (s_cons (s_asg (ws := [2]) (e_tup (a_cons (i_ 0) (a_cons (i_ 1) a_nil rfl) rfl)) (gn_ C 2 (by kernel_rfl)) rfl rfl rfl) (s_cons (s_for (ws := [3, 4]) C.at_ (i_seq C.at_ (v_ C 0 (by kernel_rfl))) (g_tup C.at_ (gs_cons (gn_ C 3 (by kernel_rfl)) (gs_cons (gn_ C 4 (by kernel_rfl)) gs_nil rfl) rfl) rfl rfl) (s_cons (s_for (ws := [5, 6]) C.at_ (i_zipA C.at_ (C.glob (by kernel_rfl)) (C.nm _ _ (show Z.lookup ("zip" : Str) = some GV.bi by kernel_rfl)) (a_cons (v_ C 3 (by kernel_rfl)) (a_cons (v_ C 1 (by kernel_rfl)) a_nil rfl) rfl) rfl rfl) (g_tup C.at_ (gs_cons (gn_ C 5 (by kernel_rfl)) (gs_cons (gn_ C 6 (by kernel_rfl)) gs_nil rfl) rfl) rfl rfl) (s_one (s_for (ws := [7, 8]) C.at_ (i_zipA C.at_ (C.glob (by kernel_rfl)) (C.nm _ _ (show Z.lookup ("zip" : Str) = some GV.bi by kernel_rfl)) (a_cons (v_ C 5 (by kernel_rfl)) (a_cons (v_ C 6 (by kernel_rfl)) a_nil rfl) rfl) rfl rfl) (g_tup C.at_ (gs_cons (gn_ C 7 (by kernel_rfl)) (gs_cons (gn_ C 8 (by kernel_rfl)) gs_nil rfl) rfl) rfl rfl) (s_one (s_for (ws := [9]) C.at_ (i_rng1 C.at_ (C.glob (by kernel_rfl)) (C.nm _ _ (show Z.lookup ("range" : Str) = some GV.bi by kernel_rfl)) (a_cons (v_ C 7 (by kernel_rfl)) a_nil rfl) rfl) (gn_ C 9 (by kernel_rfl)) (s_one (s_asg (ws := [4]) (e_fn C 59 (r := r__law_mul) (by kernel_rfl) rfl b__law_mul (by kernel_rfl) (a_cons (v_ C 4 (by kernel_rfl)) (a_cons (v_ C 8 (by kernel_rfl)) a_nil rfl) rfl)) (gn_ C 4 (by kernel_rfl)) rfl rfl rfl)) (fun _ => rfl))) (fun _ => rfl))) (fun _ => rfl)) (s_one (s_asg (ws := [2]) (e_fn C 58 (r := r__law_add) (by kernel_rfl) rfl b__law_add (by kernel_rfl) (a_cons (v_ C 2 (by kernel_rfl)) (a_cons (v_ C 4 (by kernel_rfl)) a_nil rfl) rfl)) (gn_ C 2 (by kernel_rfl)) rfl rfl rfl))) (fun _ => rfl)) (s_one (s_ret (v_ C 2 (by kernel_rfl))))))
theorem ok__law_round {X : Cx} {g : Cfg} {W : WX} {n : Nat} (P : Px X) (tp : Tp X) (C : Ct X B Z g W (lv n) N__law_round (defScope s__law_round).names) (Dd : Dp X g (lv n) (some false)) : PSs X (defBody s__law_round) (ts g W m__law_round) :=
  (s_one (s_ret (e_fn C 60 (r := r__law_sum) (by kernel_rfl) rfl b__law_sum (by kernel_rfl) (a_cons (lc_ C [(("own" : Str), 3)] (by kernel_rfl) (i_seq C.at_ (e_fn C 61 (r := r__law_turned) (by kernel_rfl) rfl b__law_turned (by kernel_rfl) (a_cons (v_ C 2 (by kernel_rfl)) (a_cons (v_ C 1 (by kernel_rfl)) a_nil rfl) rfl))) (fun C => ⟨(gn_ C 3 (by kernel_rfl)), ts_nil, (e_fn C 65 (r := r__law_value) (by kernel_rfl) rfl b__law_value (by kernel_rfl) (a_cons (v_ C 0 (by kernel_rfl)) (a_cons (v_ C 3 (by kernel_rfl)) a_nil rfl) rfl))⟩)) a_nil rfl))))
theorem ok__law_are_rows {X : Cx} {g : Cfg} {W : WX} {n : Nat} (P : Px X) (tp : Tp X) (C : Ct X B Z g W (lv n) N__law_are_rows (defScope s__law_are_rows).names) (Dd : Dp X g (lv n) (some false)) : PSs X (defBody s__law_are_rows) (ts g W m__law_are_rows) :=
  (s_cons (s_if (PW.pt (t_or (t_not (t_truB C.at_ (isi1 C 3 (by kernel_rfl) (by kernel_rfl) (by kernel_rfl) (by decide) (by kernel_rfl) (by kernel_rfl) (v_ C 0 (by kernel_rfl))) (fun _ => rfl))) (t_or1 (t_cmp (o_eq C.at_) (v_ C 0 (by kernel_rfl)) (e_tup a_nil) rfl)))) (s_one (s_ret (b_ false))) s_nil) (s_cons (s_for (ws := [2]) C.at_ (i_seq C.at_ (v_ C 0 (by kernel_rfl))) (gn_ C 2 (by kernel_rfl)) (s_one (s_if (PW.pt (t_or (t_not (t_truB C.at_ (isi1 C 3 (by kernel_rfl) (by kernel_rfl) (by kernel_rfl) (by decide) (by kernel_rfl) (by kernel_rfl) (v_ C 2 (by kernel_rfl))) (fun _ => rfl))) (t_or (t_cmp (o_ne C.at_) (bi_ C (c_len C.at_) (by kernel_rfl) (by kernel_rfl) (by kernel_rfl) (a_cons (v_ C 2 (by kernel_rfl)) a_nil rfl)) (v_ C 1 (by kernel_rfl)) rfl) (t_or1 (t_cmp (o_ne C.at_) (lc_ C [(("x_so" : Str), 3)] (by kernel_rfl) (i_seq C.at_ (v_ C 2 (by kernel_rfl))) (fun C => ⟨(gn_ C 3 (by kernel_rfl)), (ts_one (t_not (t_truB C.at_ (e_fn C 63 (r := r__law_is_fr) (by kernel_rfl) rfl b__law_is_fr (by kernel_rfl) (a_cons (v_ C 3 (by kernel_rfl)) a_nil rfl)) (fun _ => rfl)))), (i_ 1)⟩)) (e_lst a_nil) rfl))))) (s_one (s_ret (b_ false))) s_nil)) (fun _ => rfl)) (s_one (s_ret (b_ true)))))
theorem ok__law_names {X : Cx} {g : Cfg} {W : WX} {n : Nat} (P : Px X) (tp : Tp X) (C : Ct X B Z g W (lv n) N__law_names (defScope s__law_names).names) (Dd : Dp X g (lv n) (some false)) : PSs X (defBody s__law_names) (ts g W m__law_names) :=
  (s_cons (s_asg (ws := [1, 2]) (e_tup (a_cons (e_tpn (a_cons (i_ 2) (a_cons (i_ 2) (a_cons (e_tpn (a_cons (e_tup (a_cons (e_tup (a_cons (i_ 0) (a_cons (i_ 1) a_nil rfl) rfl)) (a_cons (e_tup (a_cons (i_ 1) (a_cons (i_ 1) a_nil rfl) rfl)) a_nil rfl) rfl)) a_nil rfl)) a_nil rfl) rfl) rfl)) (a_cons (e_tpn (a_cons (i_ 2) (a_cons (i_ 2) (a_cons (e_tpn (a_cons (e_tup (a_cons (e_tup (a_cons (i_ 0) (a_cons (i_ 1) a_nil rfl) rfl)) (a_cons (e_tup (a_cons (i_ 1) (a_cons (i_ 1) a_nil rfl) rfl)) a_nil rfl) rfl)) (a_cons (e_tup (a_cons (e_tup (a_cons (i_ 1) (a_cons (i_ 0) a_nil rfl) rfl)) (a_cons (e_tup (a_cons (e_un o_neg (i_ 1)) (a_cons (i_ 1) a_nil rfl) rfl)) a_nil rfl) rfl)) a_nil rfl) rfl)) a_nil rfl) rfl) rfl)) a_nil rfl) rfl)) (g_tup C.at_ (gs_cons (gn_ C 1 (by kernel_rfl)) (gs_cons (gn_ C 2 (by kernel_rfl)) gs_nil rfl) rfl) rfl rfl) rfl (swp_const (by kernel_rfl)) rfl) (s_cons (s_asg (ws := [3, 4]) (e_tup (a_cons (e_tpn (a_cons (i_ 2) (a_cons (i_ 3) (a_cons (e_tpn (a_cons (e_tup (a_cons (e_tup (a_cons (i_ 0) (a_cons (i_ 1) (a_cons (i_ 0) a_nil rfl) rfl) rfl)) (a_cons (e_tup (a_cons (i_ 1) (a_cons (i_ 2) a_nil rfl) rfl)) a_nil rfl) rfl)) a_nil rfl)) a_nil rfl) rfl) rfl)) (a_cons (e_tpn (a_cons (i_ 2) (a_cons (i_ 1) (a_cons (e_tpn (a_cons (e_tup (a_cons (e_tup (a_cons (i_ 1) a_nil rfl)) (a_cons (e_tup (a_cons (i_ 3) (a_cons (i_ 1) a_nil rfl) rfl)) a_nil rfl) rfl)) a_nil rfl)) a_nil rfl) rfl) rfl)) a_nil rfl) rfl)) (g_tup C.at_ (gs_cons (gn_ C 3 (by kernel_rfl)) (gs_cons (gn_ C 4 (by kernel_rfl)) gs_nil rfl) rfl) rfl rfl) rfl (swp_const (by kernel_rfl)) rfl) (s_cons (s_asg (ws := [0]) (e_tpn (a_cons (i_ 3) (a_cons (i_ 2) (a_cons (e_tpn (a_cons (e_tup (a_cons (e_tup (a_cons (i_ 0) (a_cons (i_ 1) a_nil rfl) rfl)) (a_cons (e_tup (a_cons (i_ 2) (a_cons (i_ 1) a_nil rfl) rfl)) a_nil rfl) rfl)) (a_cons (e_tup (a_cons (e_tup (a_cons (i_ 1) (a_cons (i_ 0) a_nil rfl) rfl)) (a_cons (e_tup (a_cons (e_un o_neg (i_ 1)) (a_cons (i_ 1) a_nil rfl) rfl)) a_nil rfl) rfl)) (a_cons (e_tup (a_cons (e_tup (a_cons (i_ 1) (a_cons (i_ 1) a_nil rfl) rfl)) (a_cons (e_tup (a_cons (i_ 1) (a_cons (i_ 2) a_nil rfl) rfl)) a_nil rfl) rfl)) (a_cons (e_tup (a_cons (e_tup (a_cons (i_ 1) (a_cons (i_ 2) a_nil rfl) rfl)) (a_cons (e_tup (a_cons (i_ 2) (a_cons (i_ 1) a_nil rfl) rfl)) a_nil rfl) rfl)) (a_cons (e_tup (a_cons (e_tup (a_cons (i_ 2) (a_cons (i_ 0) a_nil rfl) rfl)) (a_cons (e_tup (a_cons (e_un o_neg (i_ 1)) (a_cons (i_ 1) a_nil rfl) rfl)) a_nil rfl) rfl)) (a_cons (e_tup (a_cons (e_tup (a_cons (i_ 2) (a_cons (i_ 1) a_nil rfl) rfl)) (a_cons (e_tup (a_cons (e_un o_neg (i_ 1)) (a_cons (i_ 1) a_nil rfl) rfl)) a_nil rfl) rfl)) a_nil rfl) rfl) rfl) rfl) rfl) rfl)) a_nil rfl) rfl) rfl)) (gn_ C 0 (by kernel_rfl)) rfl rfl rfl) (s_one (s_ret (e_tup (a_cons (v_ C 1 (by kernel_rfl)) (a_cons (v_ C 2 (by kernel_rfl)) (a_cons (v_ C 3 (by kernel_rfl)) (a_cons (v_ C 4 (by kernel_rfl)) (a_cons (v_ C 0 (by kernel_rfl)) a_nil rfl) rfl) rfl) rfl) rfl)))))))
theorem ok__law_heard {X : Cx} {g : Cfg} {W : WX} {n : Nat} (P : Px X) (tp : Tp X) (C : Ct X B Z g W (lv n) N__law_heard (defScope s__law_heard).names) (Dd : Dp X g (lv n) (some false)) : PSs X (defBody s__law_heard) (ts g W m__law_heard) :=
  (s_cons (s_asg (ws := [4, 5]) (e_tup (a_cons n_ (a_cons n_ a_nil rfl) rfl)) (g_tup C.at_ (gs_cons (gn_ C 4 (by kernel_rfl)) (gs_cons (gn_ C 5 (by kernel_rfl)) gs_nil rfl) rfl) rfl rfl) rfl (swp_const (by kernel_rfl)) rfl) (s_cons (s_tryE C P P.hM (fun {_ _} => P.tr) tp Dd (fun C P Dd => (s_one (s_if (t_cmp (o_eq C.at_) (v_ C 0 (by kernel_rfl)) (i_ 0) rfl) (s_one (s_asg (ws := [5]) (e_fn C 36 (r := r_store) (by kernel_rfl) rfl b_store (by kernel_rfl) (a_cons (v_ C 1 (by kernel_rfl)) a_nil rfl)) (gn_ C 5 (by kernel_rfl)) rfl rfl rfl)) (s_one (s_if (t_cmp (o_eq C.at_) (v_ C 0 (by kernel_rfl)) (i_ 1) rfl) (s_one (s_asg (ws := [5]) (e_fn C 44 (r := r_most_store) (by kernel_rfl) rfl b_most_store (by kernel_rfl) (a_cons (v_ C 1 (by kernel_rfl)) (a_cons (v_ C 2 (by kernel_rfl)) a_nil rfl) rfl)) (gn_ C 5 (by kernel_rfl)) rfl rfl rfl)) (s_one (s_if (t_cmp (o_eq C.at_) (v_ C 0 (by kernel_rfl)) (i_ 2) rfl) (s_one (s_asg (ws := [5]) (e_fn C 46 (r := r_form_store) (by kernel_rfl) rfl b_form_store (by kernel_rfl) (a_cons (v_ C 1 (by kernel_rfl)) (a_cons (v_ C 2 (by kernel_rfl)) (a_cons (i_ 1) a_nil rfl) rfl) rfl)) (gn_ C 5 (by kernel_rfl)) rfl rfl rfl)) (s_one (s_asg (ws := [5]) (e_fn C 33 (r := r_step_gain) (by kernel_rfl) rfl b_step_gain (by kernel_rfl) (a_cons (v_ C 1 (by kernel_rfl)) (a_cons (v_ C 2 (by kernel_rfl)) a_nil rfl) rfl)) (gn_ C 5 (by kernel_rfl)) rfl rfl rfl))))))))) (hs_cons (h_list C P.hM 4 3 [.s "can not", .isi "ValueError"] (by kernel_rfl) (by kernel_rfl) (by kernel_rfl) (by kernel_rfl) (by kernel_rfl) (by kernel_rfl) (by kernel_rfl) (by kernel_rfl) (by kernel_rfl) (by intro f hf; simp at hf)) (hs_cons (h_list C P.hM 4 3 [.s "unfit", .isi "ValueError"] (by kernel_rfl) (by kernel_rfl) (by kernel_rfl) (by kernel_rfl) (by kernel_rfl) (by kernel_rfl) (by kernel_rfl) (by kernel_rfl) (by kernel_rfl) (by intro f hf; simp at hf)) hs_nil))) (s_one (s_ret (e_if (t_cmp (o_is) (v_ C 4 (by kernel_rfl)) n_ rfl) (v_ C 5 (by kernel_rfl)) (v_ C 4 (by kernel_rfl)))))))
theorem ok__law_things_right {X : Cx} {g : Cfg} {W : WX} {n : Nat} (P : Px X) (tp : Tp X) (C : Ct X B Z g W (lv n) N__law_things_right (defScope s__law_things_right).names) (Dd : Dp X g (lv n) (some false)) : PSs X (defBody s__law_things_right) (ts g W m__law_things_right) :=
  (ok_true (s_cons (s_asg (ws := [5, 6]) (e_tup (a_cons (e_tup (a_cons (i_ 1) (a_cons (i_ 2) a_nil rfl) rfl)) (a_cons (e_tup (a_cons (i_ 1) (a_cons (i_ 1) a_nil rfl) rfl)) a_nil rfl) rfl)) (g_tup C.at_ (gs_cons (gn_ C 5 (by kernel_rfl)) (gs_cons (gn_ C 6 (by kernel_rfl)) gs_nil rfl) rfl) rfl rfl) rfl (swp_const (by kernel_rfl)) rfl) (s_cons (s_asg (ws := [0]) (e_lst (a_cons (e_tup (a_cons (i_ 2) (a_cons (i_ 2) (a_cons (e_tup a_nil) a_nil rfl) rfl) rfl)) (a_cons (e_tup (a_cons (i_ 1) (a_cons (i_ 1) (a_cons (e_tup (a_cons (e_tup (a_cons (e_tup (a_cons (i_ 0) a_nil rfl)) (a_cons (v_ C 6 (by kernel_rfl)) a_nil rfl) rfl)) a_nil rfl)) a_nil rfl) rfl) rfl)) (a_cons (e_tup (a_cons (i_ 2) (a_cons (i_ 1) (a_cons (e_tup (a_cons (e_tup (a_cons (e_tup (a_cons (i_ 0) a_nil rfl)) (a_cons (v_ C 5 (by kernel_rfl)) a_nil rfl) rfl)) (a_cons (e_tup (a_cons (e_tup (a_cons (i_ 1) a_nil rfl)) (a_cons (v_ C 5 (by kernel_rfl)) a_nil rfl) rfl)) a_nil rfl) rfl)) a_nil rfl) rfl) rfl)) (a_cons (e_tup (a_cons (i_ 3) (a_cons (i_ 2) (a_cons (e_tup (a_cons (e_tup (a_cons (e_tup (a_cons (i_ 0) (a_cons (i_ 1) a_nil rfl) rfl)) (a_cons (v_ C 5 (by kernel_rfl)) a_nil rfl) rfl)) (a_cons (e_tup (a_cons (e_tup (a_cons (i_ 1) (a_cons (i_ 0) a_nil rfl) rfl)) (a_cons (v_ C 5 (by kernel_rfl)) a_nil rfl) rfl)) a_nil rfl) rfl)) a_nil rfl) rfl) rfl)) a_nil rfl) rfl) rfl) rfl)) (gn_ C 0 (by kernel_rfl)) rfl rfl rfl) (s_cons (s_asg (ws := [0]) (e_op (o_add C.at_) (v_ C 0 (by kernel_rfl)) (e_lst (a_cons (e_tup (a_cons (i_ 1) (a_cons (i_ 100) (a_cons (e_tup (a_cons (e_tup (a_cons (e_op (o_mulA C.at_) (e_tup (a_cons (i_ 0) a_nil rfl)) (i_ 100)) (a_cons (v_ C 6 (by kernel_rfl)) a_nil rfl) rfl)) a_nil rfl)) a_nil rfl) rfl) rfl)) (a_cons (e_tup (a_cons (i_ 2) (a_cons (i_ 2) (a_cons (e_tup (a_cons (e_tup (a_cons (e_tup (a_cons (i_ 0) (a_cons (i_ 0) a_nil rfl) rfl)) (a_cons (e_tup (a_cons (e_un o_neg (i_ 1)) (a_cons (i_ 2) a_nil rfl) rfl)) a_nil rfl) rfl)) (a_cons (e_tup (a_cons (e_tup (a_cons (i_ 0) (a_cons (i_ 1) a_nil rfl) rfl)) (a_cons (e_tup (a_cons (i_ 3) (a_cons (i_ 2) a_nil rfl) rfl)) a_nil rfl) rfl)) a_nil rfl) rfl)) a_nil rfl) rfl) rfl)) a_nil rfl) rfl))) (gn_ C 0 (by kernel_rfl)) rfl rfl rfl) (s_cons (s_asg (ws := [1]) (e_lst (a_cons (e_tup (a_cons (i_ 2) (a_cons (i_ 2) (a_cons (e_tup (a_cons (e_tup (a_cons (e_tup (a_cons (i_ 0) (a_cons (i_ 1) a_nil rfl) rfl)) (a_cons (v_ C 6 (by kernel_rfl)) a_nil rfl) rfl)) a_nil rfl)) a_nil rfl) rfl) rfl)) (a_cons (e_tup (a_cons (i_ 2) (a_cons (i_ 2) (a_cons (e_tup (a_cons (e_tup (a_cons (e_tup (a_cons (i_ 0) (a_cons (i_ 1) a_nil rfl) rfl)) (a_cons (v_ C 5 (by kernel_rfl)) a_nil rfl) rfl)) (a_cons (e_tup (a_cons (e_tup (a_cons (i_ 1) (a_cons (i_ 1) a_nil rfl) rfl)) (a_cons (v_ C 5 (by kernel_rfl)) a_nil rfl) rfl)) a_nil rfl) rfl)) a_nil rfl) rfl) rfl)) (a_cons (e_tup (a_cons (i_ 2) (a_cons (i_ 1) (a_cons (e_tup (a_cons (e_tup (a_cons (e_tup (a_cons (i_ 0) a_nil rfl)) (a_cons (v_ C 5 (by kernel_rfl)) a_nil rfl) rfl)) (a_cons (e_tup (a_cons (e_tup (a_cons (i_ 1) a_nil rfl)) (a_cons (e_tup (a_cons (i_ 1) (a_cons (i_ 3) a_nil rfl) rfl)) a_nil rfl) rfl)) a_nil rfl) rfl)) a_nil rfl) rfl) rfl)) a_nil rfl) rfl) rfl)) (gn_ C 1 (by kernel_rfl)) rfl rfl rfl) (s_cons (s_asg (ws := [1]) (e_op (o_add C.at_) (v_ C 1 (by kernel_rfl)) (e_lst (a_cons (e_tup (a_cons (i_ 2) (a_cons (i_ 1) (a_cons (e_tup (a_cons (e_tup (a_cons (e_tup (a_cons (i_ 0) a_nil rfl)) (a_cons (e_tup (a_cons (i_ 3) (a_cons (i_ 2) a_nil rfl) rfl)) a_nil rfl) rfl)) (a_cons (e_tup (a_cons (e_tup (a_cons (i_ 1) a_nil rfl)) (a_cons (e_tup (a_cons (e_un o_neg (i_ 1)) (a_cons (i_ 2) a_nil rfl) rfl)) a_nil rfl) rfl)) a_nil rfl) rfl)) a_nil rfl) rfl) rfl)) (a_cons (e_tup (a_cons (i_ 2) (a_cons (i_ 3) (a_cons (e_tup (a_cons (e_tup (a_cons (e_tup (a_cons (i_ 0) (a_cons (i_ 0) (a_cons (i_ 1) a_nil rfl) rfl) rfl)) (a_cons (v_ C 5 (by kernel_rfl)) a_nil rfl) rfl)) (a_cons (e_tup (a_cons (e_tup (a_cons (i_ 0) (a_cons (i_ 1) (a_cons (i_ 0) a_nil rfl) rfl) rfl)) (a_cons (v_ C 5 (by kernel_rfl)) a_nil rfl) rfl)) a_nil rfl) rfl)) a_nil rfl) rfl) rfl)) a_nil rfl) rfl))) (gn_ C 1 (by kernel_rfl)) rfl rfl rfl) (s_cons (s_asg (ws := [2]) (e_lst (a_cons n_ (a_cons (i_ 7) (a_cons (e_tup a_nil) (a_cons (e_tup (a_cons (i_ 2) (a_cons (i_ 2) a_nil rfl) rfl)) (a_cons (e_tup (a_cons (i_ 2) (a_cons (i_ 2) (a_cons (e_tup a_nil) (a_cons (e_tup a_nil) a_nil rfl) rfl) rfl) rfl)) (a_cons (e_lst (a_cons (i_ 2) (a_cons (i_ 2) (a_cons (e_tup a_nil) a_nil rfl) rfl) rfl)) (a_cons (e_tup (a_cons (i_ 2) (a_cons (i_ 2) (a_cons (e_lst a_nil) a_nil rfl) rfl) rfl)) (a_cons (e_tup (a_cons (i_ 0) (a_cons (i_ 2) (a_cons (e_tup a_nil) a_nil rfl) rfl) rfl)) (a_cons (e_tup (a_cons (i_ 2) (a_cons (i_ 0) (a_cons (e_tup a_nil) a_nil rfl) rfl) rfl)) (a_cons (e_tup (a_cons (b_ true) (a_cons (i_ 2) (a_cons (e_tup a_nil) a_nil rfl) rfl) rfl)) (a_cons (e_tup (a_cons (i_ 2) (a_cons (e_un o_neg (i_ 1)) (a_cons (e_tup a_nil) a_nil rfl) rfl) rfl)) (a_cons (e_tup (a_cons (s_ "2") (a_cons (i_ 2) (a_cons (e_tup a_nil) a_nil rfl) rfl) rfl)) a_nil rfl) rfl) rfl) rfl) rfl) rfl) rfl) rfl) rfl) rfl) rfl) rfl)) (gn_ C 2 (by kernel_rfl)) rfl rfl rfl) (s_cons (s_asg (ws := [2]) (e_op (o_add C.at_) (v_ C 2 (by kernel_rfl)) (e_lst (a_cons (e_tup (a_cons (i_ 2) (a_cons (i_ 2) (a_cons (e_tup (a_cons (e_tup (a_cons (e_tup (a_cons (i_ 0) (a_cons (i_ 1) a_nil rfl) rfl)) (a_cons (e_tup (a_cons (i_ 0) (a_cons (i_ 1) a_nil rfl) rfl)) a_nil rfl) rfl)) a_nil rfl)) a_nil rfl) rfl) rfl)) (a_cons (e_tup (a_cons (i_ 2) (a_cons (i_ 2) (a_cons (e_tup (a_cons (e_tup (a_cons (e_tup (a_cons (i_ 0) (a_cons (i_ 2) a_nil rfl) rfl)) (a_cons (v_ C 6 (by kernel_rfl)) a_nil rfl) rfl)) a_nil rfl)) a_nil rfl) rfl) rfl)) (a_cons (e_tup (a_cons (i_ 2) (a_cons (i_ 2) (a_cons (e_tup (a_cons (e_tup (a_cons (e_tup (a_cons (i_ 0) a_nil rfl)) (a_cons (v_ C 6 (by kernel_rfl)) a_nil rfl) rfl)) a_nil rfl)) a_nil rfl) rfl) rfl)) (a_cons (e_tup (a_cons (i_ 2) (a_cons (i_ 2) (a_cons (e_tup (a_cons (e_tup (a_cons (e_lst (a_cons (i_ 0) (a_cons (i_ 1) a_nil rfl) rfl)) (a_cons (v_ C 6 (by kernel_rfl)) a_nil rfl) rfl)) a_nil rfl)) a_nil rfl) rfl) rfl)) a_nil rfl) rfl) rfl) rfl))) (gn_ C 2 (by kernel_rfl)) rfl rfl rfl) (s_cons (s_asg (ws := [2]) (e_op (o_add C.at_) (v_ C 2 (by kernel_rfl)) (e_lst (a_cons (e_tup (a_cons (i_ 2) (a_cons (i_ 2) (a_cons (e_tup (a_cons (e_tup (a_cons (e_tup (a_cons (i_ 0) (a_cons (i_ 1) a_nil rfl) rfl)) (a_cons (e_tup (a_cons (i_ 2) (a_cons (i_ 2) a_nil rfl) rfl)) a_nil rfl) rfl)) a_nil rfl)) a_nil rfl) rfl) rfl)) (a_cons (e_tup (a_cons (i_ 2) (a_cons (i_ 2) (a_cons (e_tup (a_cons (e_tup (a_cons (e_tup (a_cons (i_ 1) (a_cons (i_ 0) a_nil rfl) rfl)) (a_cons (v_ C 6 (by kernel_rfl)) a_nil rfl) rfl)) (a_cons (e_tup (a_cons (e_tup (a_cons (i_ 0) (a_cons (i_ 1) a_nil rfl) rfl)) (a_cons (v_ C 6 (by kernel_rfl)) a_nil rfl) rfl)) a_nil rfl) rfl)) a_nil rfl) rfl) rfl)) (a_cons (e_tup (a_cons (i_ 2) (a_cons (i_ 1) (a_cons (e_tup (a_cons (e_tup (a_cons (e_tup (a_cons (i_ 0) a_nil rfl)) (a_cons (v_ C 5 (by kernel_rfl)) a_nil rfl) rfl)) (a_cons (e_tup (a_cons (e_tup (a_cons (i_ 0) a_nil rfl)) (a_cons (v_ C 5 (by kernel_rfl)) a_nil rfl) rfl)) a_nil rfl) rfl)) a_nil rfl) rfl) rfl)) a_nil rfl) rfl) rfl))) (gn_ C 2 (by kernel_rfl)) rfl rfl rfl) (s_cons (s_asg (ws := [2]) (e_op (o_add C.at_) (v_ C 2 (by kernel_rfl)) (e_lst (a_cons (e_tup (a_cons (i_ 2) (a_cons (i_ 1) (a_cons (e_tup (a_cons (e_tup (a_cons (e_tup (a_cons (b_ false) a_nil rfl)) (a_cons (v_ C 6 (by kernel_rfl)) a_nil rfl) rfl)) a_nil rfl)) a_nil rfl) rfl) rfl)) (a_cons (e_tup (a_cons (i_ 2) (a_cons (i_ 1) (a_cons (e_tup (a_cons (e_tup (a_cons (e_tup (a_cons (e_un o_neg (i_ 1)) a_nil rfl)) (a_cons (v_ C 6 (by kernel_rfl)) a_nil rfl) rfl)) a_nil rfl)) a_nil rfl) rfl) rfl)) (a_cons (e_tup (a_cons (i_ 2) (a_cons (i_ 1) (a_cons (e_tup (a_cons (e_tup (a_cons (e_tup (a_cons (i_ 0) a_nil rfl)) (a_cons (i_ 1) a_nil rfl) rfl)) a_nil rfl)) a_nil rfl) rfl) rfl)) (a_cons (e_tup (a_cons (i_ 2) (a_cons (i_ 1) (a_cons (e_tup (a_cons (e_tup (a_cons (e_tup (a_cons (i_ 0) a_nil rfl)) (a_cons (v_ C 6 (by kernel_rfl)) (a_cons (i_ 0) a_nil rfl) rfl) rfl)) a_nil rfl)) a_nil rfl) rfl) rfl)) (a_cons (e_tup (a_cons (i_ 2) (a_cons (i_ 1) (a_cons n_ a_nil rfl) rfl) rfl)) a_nil rfl) rfl) rfl) rfl) rfl))) (gn_ C 2 (by kernel_rfl)) rfl rfl rfl) (s_cons (s_asg (ws := [3]) (e_lst (a_cons (lc_ C [(("own" : Str), 7)] (by kernel_rfl) (i_seq C.at_ (e_op (o_add C.at_) (v_ C 0 (by kernel_rfl)) (v_ C 1 (by kernel_rfl)))) (fun C => ⟨(gn_ C 7 (by kernel_rfl)), ts_nil, (e_fn C 24 (r := r_is_gain) (by kernel_rfl) rfl b_is_gain (by kernel_rfl) (a_cons (v_ C 7 (by kernel_rfl)) a_nil rfl))⟩)) (a_cons (lc_ C [(("own" : Str), 7)] (by kernel_rfl) (i_seq C.at_ (v_ C 2 (by kernel_rfl))) (fun C => ⟨(gn_ C 7 (by kernel_rfl)), ts_nil, (e_fnK C 24 1 [0] ["thing"] (r := r_is_gain) (by kernel_rfl) rfl kb_is_gain_thing (by kernel_rfl) (kw_cons (v_ C 7 (by kernel_rfl)) kw_nil))⟩)) a_nil rfl) rfl)) (gn_ C 3 (by kernel_rfl)) rfl rfl rfl) (s_cons (s_asg (ws := [3]) (e_op (o_add C.at_) (v_ C 3 (by kernel_rfl)) (e_lst (a_cons (lc_ C [(("own" : Str), 7)] (by kernel_rfl) (i_seq C.at_ (v_ C 0 (by kernel_rfl))) (fun C => ⟨(gn_ C 7 (by kernel_rfl)), ts_nil, (e_fn C 28 (r := r_is_stream) (by kernel_rfl) rfl b_is_stream (by kernel_rfl) (a_cons (v_ C 7 (by kernel_rfl)) a_nil rfl))⟩)) (a_cons (lc_ C [(("own" : Str), 7)] (by kernel_rfl) (i_seq C.at_ (v_ C 1 (by kernel_rfl))) (fun C => ⟨(gn_ C 7 (by kernel_rfl)), ts_nil, (e_fn C 28 (r := r_is_stream) (by kernel_rfl) rfl b_is_stream (by kernel_rfl) (a_cons (v_ C 7 (by kernel_rfl)) a_nil rfl))⟩)) (a_cons (lc_ C [(("own" : Str), 7)] (by kernel_rfl) (i_seq C.at_ (v_ C 2 (by kernel_rfl))) (fun C => ⟨(gn_ C 7 (by kernel_rfl)), ts_nil, (e_fnK C 28 1 [0] ["thing"] (r := r_is_stream) (by kernel_rfl) rfl kb_is_stream_thing (by kernel_rfl) (kw_cons (v_ C 7 (by kernel_rfl)) kw_nil))⟩)) a_nil rfl) rfl) rfl))) (gn_ C 3 (by kernel_rfl)) rfl rfl rfl) (s_cons (s_asg (ws := [4]) (e_lst (a_cons (e_op (o_mulA C.at_) (e_lst (a_cons (b_ true) a_nil rfl)) (i_ 11)) (a_cons (e_op (o_mulA C.at_) (e_lst (a_cons (b_ false) a_nil rfl)) (i_ 24)) (a_cons (e_lst (a_cons (b_ false) (a_cons (b_ true) (a_cons (b_ true) (a_cons (b_ true) (a_cons (b_ true) (a_cons (b_ false) a_nil rfl) rfl) rfl) rfl) rfl) rfl)) (a_cons (e_op (o_mulA C.at_) (e_lst (a_cons (b_ false) a_nil rfl)) (i_ 5)) (a_cons (e_op (o_mulA C.at_) (e_lst (a_cons (b_ false) a_nil rfl)) (i_ 24)) a_nil rfl) rfl) rfl) rfl) rfl)) (gn_ C 4 (by kernel_rfl)) rfl rfl rfl) (s_one (s_ret (e_fn C 54 (r := r__law_same) (by kernel_rfl) rfl b__law_same (by kernel_rfl) (a_cons (v_ C 3 (by kernel_rfl)) (a_cons (v_ C 4 (by kernel_rfl)) a_nil rfl) rfl)))))))))))))))))
theorem ok__law_rings_right {X : Cx} {g : Cfg} {W : WX} {n : Nat} (P : Px X) (tp : Tp X) (C : Ct X B Z g W (lv n) N__law_rings_right (defScope s__law_rings_right).names) (Dd : Dp X g (lv n) (some false)) : PSs X (defBody s__law_rings_right) (ts g W m__law_rings_right) :=
  (ok_true (s_cons (s_asg (ws := [3, 4, 5, 6, 7]) (e_fn0 C 68 (r := r__law_names) (by kernel_rfl) rfl b__law_names (by kernel_rfl)) (g_tup C.at_ (gs_cons (gn_ C 3 (by kernel_rfl)) (gs_cons (gn_ C 4 (by kernel_rfl)) (gs_cons (gn_ C 5 (by kernel_rfl)) (gs_cons (gn_ C 6 (by kernel_rfl)) (gs_cons (gn_ C 7 (by kernel_rfl)) gs_nil rfl) rfl) rfl) rfl) rfl) rfl rfl) rfl rfl rfl) (s_cons (setLc_ C 0 [(("own" : Str), 10)] (by kernel_rfl) (by kernel_rfl) (by kernel_rfl) (by kernel_rfl) (by kernel_rfl) (i_seq C.at_ (e_tup (a_cons (e_tup (a_cons (i_ 1) (a_cons (i_ 0) a_nil rfl) rfl)) (a_cons (e_tup (a_cons (i_ 0) a_nil rfl)) (a_cons (e_tup (a_cons (i_ 0) (a_cons (i_ 1) (a_cons (i_ 1) a_nil rfl) rfl) rfl)) (a_cons (e_tup (a_cons (i_ 0) (a_cons (i_ 1) (a_cons (i_ 0) (a_cons (i_ 1) a_nil rfl) rfl) rfl) rfl)) a_nil rfl) rfl) rfl) rfl))) (fun C => ⟨(gn_ C 10 (by kernel_rfl)), ts_nil, (e_fn C 32 (r := r_ring_gain) (by kernel_rfl) rfl b_ring_gain (by kernel_rfl) (a_cons (e_dn (v_ C 3 (by kernel_rfl))) (a_cons (v_ C 10 (by kernel_rfl)) a_nil rfl) rfl))⟩)) (s_cons (s_asg (ws := [0]) (e_op (o_add C.at_) (v_ C 0 (by kernel_rfl)) (e_lst (a_cons (e_fn C 32 (r := r_ring_gain) (by kernel_rfl) rfl b_ring_gain (by kernel_rfl) (a_cons (e_dn (v_ C 5 (by kernel_rfl))) (a_cons (e_tup (a_cons (i_ 0) (a_cons (i_ 1) a_nil rfl) rfl)) a_nil rfl) rfl)) (a_cons (e_fn C 32 (r := r_ring_gain) (by kernel_rfl) rfl b_ring_gain (by kernel_rfl) (a_cons (e_dn (v_ C 5 (by kernel_rfl))) (a_cons (e_tup (a_cons (i_ 0) a_nil rfl)) a_nil rfl) rfl)) (a_cons (e_fn C 32 (r := r_ring_gain) (by kernel_rfl) rfl b_ring_gain (by kernel_rfl) (a_cons (e_dn (v_ C 6 (by kernel_rfl))) (a_cons (e_tup (a_cons (i_ 1) (a_cons (i_ 1) (a_cons (i_ 0) a_nil rfl) rfl) rfl)) a_nil rfl) rfl)) (a_cons (e_fnK C 32 2 [1, 0] ["ring", "gain"] (r := r_ring_gain) (by kernel_rfl) rfl kb_ring_gain_ring_gain (by kernel_rfl) (kw_cons (e_lst (a_cons (i_ 0) (a_cons (i_ 1) (a_cons (i_ 2) a_nil rfl) rfl) rfl)) (kw_cons (e_fn C 55 (r := r__law_lists) (by kernel_rfl) rfl b__law_lists (by kernel_rfl) (a_cons (e_dn (v_ C 7 (by kernel_rfl))) a_nil rfl)) kw_nil))) a_nil rfl) rfl) rfl) rfl))) (gn_ C 0 (by kernel_rfl)) rfl rfl rfl) (s_cons (s_if (t_not (t_truB C.at_ (e_fn C 54 (r := r__law_same) (by kernel_rfl) rfl b__law_same (by kernel_rfl) (a_cons (v_ C 0 (by kernel_rfl)) (a_cons (e_lst (a_cons (e_tup (a_cons (i_ 1) (a_cons (i_ 1) a_nil rfl) rfl)) (a_cons (e_tup (a_cons (i_ 0) (a_cons (i_ 1) a_nil rfl) rfl)) (a_cons (e_tup (a_cons (i_ 1) (a_cons (i_ 1) a_nil rfl) rfl)) (a_cons (e_tup (a_cons (i_ 2) (a_cons (i_ 1) a_nil rfl) rfl)) (a_cons (e_tup (a_cons (i_ 1) (a_cons (i_ 2) a_nil rfl) rfl)) (a_cons (e_tup (a_cons (i_ 0) (a_cons (i_ 1) a_nil rfl) rfl)) (a_cons (e_tup (a_cons (i_ 6) (a_cons (i_ 1) a_nil rfl) rfl)) (a_cons (e_tup (a_cons (i_ 3) (a_cons (i_ 1) a_nil rfl) rfl)) a_nil rfl) rfl) rfl) rfl) rfl) rfl) rfl) rfl)) a_nil rfl) rfl)) (fun _ => rfl))) (s_one (s_ret (b_ false))) s_nil) (s_cons (s_asg (ws := [8, 9]) (e_tup (a_cons (e_tup (a_cons (i_ 2) (a_cons (i_ 1) (a_cons (e_tup (a_cons (e_tup (a_cons (e_tup (a_cons (i_ 0) a_nil rfl)) (a_cons (e_tup (a_cons (i_ 1) (a_cons (i_ 2) a_nil rfl) rfl)) a_nil rfl) rfl)) (a_cons (e_tup (a_cons (e_tup (a_cons (i_ 1) a_nil rfl)) (a_cons (e_tup (a_cons (i_ 1) (a_cons (i_ 2) a_nil rfl) rfl)) a_nil rfl) rfl)) a_nil rfl) rfl)) a_nil rfl) rfl) rfl)) (a_cons (e_tup (a_cons (i_ 2) (a_cons (i_ 2) (a_cons (e_tup (a_cons (e_tup (a_cons (e_tup (a_cons (i_ 0) (a_cons (i_ 1) a_nil rfl) rfl)) (a_cons (e_tup (a_cons (i_ 1) (a_cons (i_ 2) a_nil rfl) rfl)) a_nil rfl) rfl)) (a_cons (e_tup (a_cons (e_tup (a_cons (i_ 1) (a_cons (i_ 0) a_nil rfl) rfl)) (a_cons (e_tup (a_cons (i_ 1) (a_cons (i_ 2) a_nil rfl) rfl)) a_nil rfl) rfl)) a_nil rfl) rfl)) a_nil rfl) rfl) rfl)) a_nil rfl) rfl)) (g_tup C.at_ (gs_cons (gn_ C 8 (by kernel_rfl)) (gs_cons (gn_ C 9 (by kernel_rfl)) gs_nil rfl) rfl) rfl rfl) rfl (swp_const (by kernel_rfl)) rfl) (s_cons (s_asg (ws := [1]) (e_tup (a_cons (i_ 2) (a_cons (i_ 2) (a_cons (e_tup (a_cons (e_tup (a_cons (e_tup (a_cons (i_ 0) (a_cons (i_ 0) a_nil rfl) rfl)) (a_cons (e_tup (a_cons (i_ 3) (a_cons (i_ 8) a_nil rfl) rfl)) a_nil rfl) rfl)) (a_cons (e_tup (a_cons (e_tup (a_cons (i_ 0) (a_cons (i_ 1) a_nil rfl) rfl)) (a_cons (e_tup (a_cons (i_ 1) (a_cons (i_ 8) a_nil rfl) rfl)) a_nil rfl) rfl)) (a_cons (e_tup (a_cons (e_tup (a_cons (i_ 1) (a_cons (i_ 0) a_nil rfl) rfl)) (a_cons (e_tup (a_cons (i_ 1) (a_cons (i_ 8) a_nil rfl) rfl)) a_nil rfl) rfl)) (a_cons (e_tup (a_cons (e_tup (a_cons (i_ 1) (a_cons (i_ 1) a_nil rfl) rfl)) (a_cons (e_tup (a_cons (i_ 3) (a_cons (i_ 8) a_nil rfl) rfl)) a_nil rfl) rfl)) a_nil rfl) rfl) rfl) rfl)) a_nil rfl) rfl) rfl)) (gn_ C 1 (by kernel_rfl)) rfl rfl rfl) (s_cons (setLc_ C 0 [(("far" : Str), 11)] (by kernel_rfl) (by kernel_rfl) (by kernel_rfl) (by kernel_rfl) (by kernel_rfl) (i_seq C.at_ (e_tup (a_cons (v_ C 8 (by kernel_rfl)) (a_cons (v_ C 9 (by kernel_rfl)) (a_cons (v_ C 1 (by kernel_rfl)) a_nil rfl) rfl) rfl))) (fun C => ⟨(gn_ C 11 (by kernel_rfl)), ts_nil, (lc_ C [(("own" : Str), 10)] (by kernel_rfl) (i_seq C.at_ (e_tup (a_cons (e_dn (v_ C 3 (by kernel_rfl))) (a_cons (e_dn (v_ C 5 (by kernel_rfl))) (a_cons (e_dn (v_ C 6 (by kernel_rfl))) a_nil rfl) rfl) rfl))) (fun C => ⟨(gn_ C 10 (by kernel_rfl)), ts_nil, (e_fn C 33 (r := r_step_gain) (by kernel_rfl) rfl b_step_gain (by kernel_rfl) (a_cons (v_ C 10 (by kernel_rfl)) (a_cons (v_ C 11 (by kernel_rfl)) a_nil rfl) rfl))⟩))⟩)) (s_cons (s_asg (ws := [2]) (e_lst (a_cons (e_lst (a_cons (e_tup (a_cons (i_ 1) (a_cons (i_ 4) a_nil rfl) rfl)) (a_cons (e_tup (a_cons (i_ 1) (a_cons (i_ 16) a_nil rfl) rfl)) (a_cons (e_tup (a_cons (i_ 3) (a_cons (i_ 2) a_nil rfl) rfl)) a_nil rfl) rfl) rfl)) (a_cons (e_lst (a_cons (e_tup (a_cons (i_ 1) (a_cons (i_ 2) a_nil rfl) rfl)) (a_cons (e_tup (a_cons (i_ 1) (a_cons (i_ 4) a_nil rfl) rfl)) (a_cons (e_tup (a_cons (i_ 3) (a_cons (i_ 2) a_nil rfl) rfl)) a_nil rfl) rfl) rfl)) (a_cons (e_lst (a_cons (e_tup (a_cons (i_ 1) (a_cons (i_ 8) a_nil rfl) rfl)) (a_cons (e_tup (a_cons (i_ 1) (a_cons (i_ 64) a_nil rfl) rfl)) (a_cons (e_tup (a_cons (i_ 3) (a_cons (i_ 2) a_nil rfl) rfl)) a_nil rfl) rfl) rfl)) a_nil rfl) rfl) rfl)) (gn_ C 2 (by kernel_rfl)) rfl rfl rfl) (s_cons (s_asg (ws := [0]) (e_op (o_add C.at_) (v_ C 0 (by kernel_rfl)) (e_lst (a_cons (e_fn C 69 (r := r__law_heard) (by kernel_rfl) rfl b__law_heard (by kernel_rfl) (a_cons (i_ 3) (a_cons (e_dn (v_ C 3 (by kernel_rfl))) (a_cons (e_tup (a_cons (i_ 3) (a_cons (i_ 1) (a_cons (e_tup (a_cons (e_tup (a_cons (e_tup (a_cons (i_ 0) a_nil rfl)) (a_cons (e_tup (a_cons (i_ 1) (a_cons (i_ 1) a_nil rfl) rfl)) a_nil rfl) rfl)) a_nil rfl)) a_nil rfl) rfl) rfl)) a_nil rfl) rfl) rfl)) (a_cons (e_fnK C 33 2 [1, 0] ["stream", "gain"] (r := r_step_gain) (by kernel_rfl) rfl kb_step_gain_stream_gain (by kernel_rfl) (kw_cons (e_fn C 55 (r := r__law_lists) (by kernel_rfl) rfl b__law_lists (by kernel_rfl) (a_cons (v_ C 1 (by kernel_rfl)) a_nil rfl)) (kw_cons (e_fn C 55 (r := r__law_lists) (by kernel_rfl) rfl b__law_lists (by kernel_rfl) (a_cons (e_dn (v_ C 4 (by kernel_rfl))) a_nil rfl)) kw_nil))) (a_cons (e_fn C 33 (r := r_step_gain) (by kernel_rfl) rfl b_step_gain (by kernel_rfl) (a_cons (e_tup (a_cons (i_ 2) (a_cons (i_ 2) (a_cons (e_tup a_nil) a_nil rfl) rfl) rfl)) (a_cons (v_ C 9 (by kernel_rfl)) a_nil rfl) rfl)) a_nil rfl) rfl) rfl))) (gn_ C 0 (by kernel_rfl)) rfl rfl rfl) (s_one (s_ret (e_fn C 54 (r := r__law_same) (by kernel_rfl) rfl b__law_same (by kernel_rfl) (a_cons (v_ C 0 (by kernel_rfl)) (a_cons (e_op (o_add C.at_) (v_ C 2 (by kernel_rfl)) (e_lst (a_cons (e_lst (a_cons (s_ "unfit") (a_cons (b_ true) a_nil rfl) rfl)) (a_cons (e_tup (a_cons (i_ 0) (a_cons (i_ 1) a_nil rfl) rfl)) (a_cons (e_tup (a_cons (i_ 0) (a_cons (i_ 1) a_nil rfl) rfl)) a_nil rfl) rfl) rfl))) a_nil rfl) rfl))))))))))))))
theorem ok__law_stores_right {X : Cx} {g : Cfg} {W : WX} {n : Nat} (P : Px X) (tp : Tp X) (C : Ct X B Z g W (lv n) N__law_stores_right (defScope s__law_stores_right).names) (Dd : Dp X g (lv n) (some false)) : PSs X (defBody s__law_stores_right) (ts g W m__law_stores_right) :=
  (ok_true (s_cons (s_asg (ws := [8, 9, 10, 11, 12]) (e_fn0 C 68 (r := r__law_names) (by kernel_rfl) rfl b__law_names (by kernel_rfl)) (g_tup C.at_ (gs_cons (gn_ C 8 (by kernel_rfl)) (gs_cons (gn_ C 9 (by kernel_rfl)) (gs_cons (gn_ C 10 (by kernel_rfl)) (gs_cons (gn_ C 11 (by kernel_rfl)) (gs_cons (gn_ C 12 (by kernel_rfl)) gs_nil rfl) rfl) rfl) rfl) rfl) rfl rfl) rfl rfl rfl) (s_cons (s_asg (ws := [0]) (e_tup (a_cons (i_ 2) (a_cons (i_ 3) (a_cons (e_tup (a_cons (e_tup (a_cons (e_tup (a_cons (i_ 0) (a_cons (i_ 0) (a_cons (i_ 1) a_nil rfl) rfl) rfl)) (a_cons (e_tup (a_cons (i_ 2) (a_cons (i_ 1) a_nil rfl) rfl)) a_nil rfl) rfl)) (a_cons (e_tup (a_cons (e_tup (a_cons (i_ 0) (a_cons (i_ 1) (a_cons (i_ 0) a_nil rfl) rfl) rfl)) (a_cons (e_tup (a_cons (e_un o_neg (i_ 2)) (a_cons (i_ 1) a_nil rfl) rfl)) a_nil rfl) rfl)) (a_cons (e_tup (a_cons (e_tup (a_cons (i_ 0) (a_cons (i_ 1) (a_cons (i_ 1) a_nil rfl) rfl) rfl)) (a_cons (e_tup (a_cons (e_un o_neg (i_ 5)) (a_cons (i_ 2) a_nil rfl) rfl)) a_nil rfl) rfl)) (a_cons (e_tup (a_cons (e_tup (a_cons (i_ 1) (a_cons (i_ 0) (a_cons (i_ 1) a_nil rfl) rfl) rfl)) (a_cons (e_tup (a_cons (i_ 2) (a_cons (i_ 1) a_nil rfl) rfl)) a_nil rfl) rfl)) (a_cons (e_tup (a_cons (e_tup (a_cons (i_ 1) (a_cons (i_ 1) (a_cons (i_ 0) a_nil rfl) rfl) rfl)) (a_cons (e_tup (a_cons (i_ 1) (a_cons (i_ 2) a_nil rfl) rfl)) a_nil rfl) rfl)) a_nil rfl) rfl) rfl) rfl) rfl)) a_nil rfl) rfl) rfl)) (gn_ C 0 (by kernel_rfl)) rfl rfl rfl) (s_cons (s_asg (ws := [1]) (e_tup (a_cons (e_tup (a_cons (e_tup (a_cons (i_ 0) (a_cons (i_ 1) a_nil rfl) rfl)) (a_cons (e_tup (a_cons (i_ 2) (a_cons (i_ 1) a_nil rfl) rfl)) a_nil rfl) rfl)) (a_cons (e_tup (a_cons (e_tup (a_cons (i_ 1) (a_cons (i_ 1) a_nil rfl) rfl)) (a_cons (e_tup (a_cons (e_un o_neg (i_ 1)) (a_cons (i_ 2) a_nil rfl) rfl)) a_nil rfl) rfl)) a_nil rfl) rfl)) (gn_ C 1 (by kernel_rfl)) rfl rfl rfl) (s_cons (setLc_ C 2 [(("own" : Str), 7)] (by kernel_rfl) (by kernel_rfl) (by kernel_rfl) (by kernel_rfl) (by kernel_rfl) (i_seq C.at_ (e_tup (a_cons (e_dn (v_ C 9 (by kernel_rfl))) (a_cons (e_tup (a_cons (i_ 2) (a_cons (i_ 1) (a_cons (e_tup a_nil) a_nil rfl) rfl) rfl)) (a_cons (e_dn (v_ C 11 (by kernel_rfl))) (a_cons (e_dn (v_ C 8 (by kernel_rfl))) (a_cons (v_ C 0 (by kernel_rfl)) (a_cons (e_tup (a_cons (i_ 3) (a_cons (i_ 2) (a_cons (e_tup a_nil) a_nil rfl) rfl) rfl)) (a_cons (e_fn C 55 (r := r__law_lists) (by kernel_rfl) rfl b__law_lists (by kernel_rfl) (a_cons (v_ C 0 (by kernel_rfl)) a_nil rfl)) (a_cons (e_tup (a_cons (i_ 1) (a_cons (i_ 2) (a_cons (e_tup (a_cons (e_tup (a_cons (e_tup (a_cons (i_ 0) (a_cons (i_ 0) a_nil rfl) rfl)) (a_cons (e_tup (a_cons (i_ 1) (a_cons (i_ 1) a_nil rfl) rfl)) a_nil rfl) rfl)) a_nil rfl)) a_nil rfl) rfl) rfl)) a_nil rfl) rfl) rfl) rfl) rfl) rfl) rfl) rfl))) (fun C => ⟨(gn_ C 7 (by kernel_rfl)), ts_nil, (e_fn C 69 (r := r__law_heard) (by kernel_rfl) rfl b__law_heard (by kernel_rfl) (a_cons (i_ 0) (a_cons (e_dn (v_ C 7 (by kernel_rfl))) (a_cons n_ a_nil rfl) rfl) rfl))⟩)) (s_cons (s_asg (ws := [3]) (e_lst (a_cons (e_tup (a_cons (e_tup (a_cons (e_tup (a_cons (i_ 1) a_nil rfl)) (a_cons (e_tup (a_cons (i_ 1) (a_cons (i_ 1) a_nil rfl) rfl)) a_nil rfl) rfl)) a_nil rfl)) (a_cons (e_tup a_nil) (a_cons (e_lst (a_cons (s_ "can not") (a_cons (b_ true) a_nil rfl) rfl)) (a_cons (e_lst (a_cons (s_ "can not") (a_cons (b_ true) a_nil rfl) rfl)) (a_cons (v_ C 1 (by kernel_rfl)) (a_cons (e_tup a_nil) (a_cons (v_ C 1 (by kernel_rfl)) (a_cons (e_lst (a_cons (s_ "can not") (a_cons (b_ true) a_nil rfl) rfl)) a_nil rfl) rfl) rfl) rfl) rfl) rfl) rfl) rfl)) (gn_ C 3 (by kernel_rfl)) rfl rfl rfl) (s_cons (s_if (t_not (t_truB C.at_ (e_fn C 54 (r := r__law_same) (by kernel_rfl) rfl b__law_same (by kernel_rfl) (a_cons (v_ C 2 (by kernel_rfl)) (a_cons (v_ C 3 (by kernel_rfl)) a_nil rfl) rfl)) (fun _ => rfl))) (s_one (s_ret (b_ false))) s_nil) (s_cons (s_asg (ws := [4]) (e_tup (a_cons (e_tup (a_cons (e_tup (a_cons (i_ 0) (a_cons (i_ 0) a_nil rfl) rfl)) (a_cons (e_tup (a_cons (i_ 1) (a_cons (i_ 1) a_nil rfl) rfl)) a_nil rfl) rfl)) (a_cons (e_tup (a_cons (e_tup (a_cons (i_ 0) (a_cons (i_ 1) a_nil rfl) rfl)) (a_cons (e_tup (a_cons (i_ 3) (a_cons (i_ 1) a_nil rfl) rfl)) a_nil rfl) rfl)) (a_cons (e_tup (a_cons (e_tup (a_cons (i_ 1) (a_cons (i_ 0) a_nil rfl) rfl)) (a_cons (e_tup (a_cons (i_ 1) (a_cons (i_ 1) a_nil rfl) rfl)) a_nil rfl) rfl)) (a_cons (e_tup (a_cons (e_tup (a_cons (i_ 1) (a_cons (i_ 1) a_nil rfl) rfl)) (a_cons (e_tup (a_cons (i_ 1) (a_cons (i_ 2) a_nil rfl) rfl)) a_nil rfl) rfl)) a_nil rfl) rfl) rfl) rfl)) (gn_ C 4 (by kernel_rfl)) rfl rfl rfl) (s_cons (s_asg (ws := [5]) (e_lst (a_cons (v_ C 1 (by kernel_rfl)) (a_cons (v_ C 4 (by kernel_rfl)) (a_cons (e_sl C.at_ (v_ C 1 (by kernel_rfl)) o_none (o_some (i_ 1))) (a_cons (e_revS C.at_ (v_ C 1 (by kernel_rfl)) (o_some (e_un o_neg (i_ 1)))) (a_cons (ty_ C (c_listA C.at_) (by kernel_rfl) (by kernel_rfl) (by kernel_rfl) (a_cons (v_ C 1 (by kernel_rfl)) a_nil rfl)) (a_cons (e_tup a_nil) (a_cons n_ (a_cons (e_tup (a_cons (e_tup (a_cons (e_tup (a_cons (i_ 0) (a_cons (i_ 1) a_nil rfl) rfl)) (a_cons (e_tup (a_cons (i_ 2) (a_cons (i_ 1) a_nil rfl) rfl)) (a_cons (i_ 0) a_nil rfl) rfl) rfl)) a_nil rfl)) (a_cons (e_tup (a_cons (e_tup (a_cons (e_tup (a_cons (i_ 0) (a_cons (i_ 1) a_nil rfl) rfl)) (a_cons (e_tup (a_cons (i_ 4) (a_cons (i_ 2) a_nil rfl) rfl)) a_nil rfl) rfl)) (a_cons (e_ixB C.at_ (v_ C 1 (by kernel_rfl)) (i_ 1) (fun _ _ => rfl)) a_nil rfl) rfl)) (a_cons (e_tup (a_cons (e_tup (a_cons (e_tup (a_cons (i_ 0) a_nil rfl)) (a_cons (e_tup (a_cons (i_ 2) (a_cons (i_ 1) a_nil rfl) rfl)) a_nil rfl) rfl)) a_nil rfl)) a_nil rfl) rfl) rfl) rfl) rfl) rfl) rfl) rfl) rfl) rfl)) (gn_ C 5 (by kernel_rfl)) rfl rfl rfl) (s_cons (s_asg (ws := [2]) (e_lst (a_cons (lc_ C [(("own" : Str), 7)] (by kernel_rfl) (i_seq C.at_ (v_ C 5 (by kernel_rfl))) (fun C => ⟨(gn_ C 7 (by kernel_rfl)), ts_nil, (e_fn C 37 (r := r_is_store) (by kernel_rfl) rfl b_is_store (by kernel_rfl) (a_cons (v_ C 0 (by kernel_rfl)) (a_cons (e_dn (v_ C 7 (by kernel_rfl))) a_nil rfl) rfl))⟩)) (a_cons (e_fn C 37 (r := r_is_store) (by kernel_rfl) rfl b_is_store (by kernel_rfl) (a_cons (e_tup (a_cons (i_ 2) (a_cons (i_ 2) (a_cons (e_tup a_nil) a_nil rfl) rfl) rfl)) (a_cons (e_tup (a_cons (e_tup (a_cons (e_tup (a_cons (i_ 1) a_nil rfl)) (a_cons (e_tup (a_cons (i_ 1) (a_cons (i_ 1) a_nil rfl) rfl)) a_nil rfl) rfl)) a_nil rfl)) a_nil rfl) rfl)) (a_cons (e_fnK C 37 2 [1, 0] ["thing", "gain"] (r := r_is_store) (by kernel_rfl) rfl kb_is_store_thing_gain (by kernel_rfl) (kw_cons (e_tup (a_cons (e_tup (a_cons (e_tup (a_cons (i_ 0) a_nil rfl)) (a_cons (e_tup (a_cons (i_ 5) (a_cons (i_ 1) a_nil rfl) rfl)) a_nil rfl) rfl)) (a_cons (e_tup (a_cons (e_tup (a_cons (i_ 1) a_nil rfl)) (a_cons (e_tup (a_cons (i_ 5) (a_cons (i_ 1) a_nil rfl) rfl)) a_nil rfl) rfl)) a_nil rfl) rfl)) (kw_cons (e_lst (a_cons (i_ 2) (a_cons (i_ 2) (a_cons (e_lst a_nil) a_nil rfl) rfl) rfl)) kw_nil))) a_nil rfl) rfl) rfl)) (gn_ C 2 (by kernel_rfl)) rfl rfl rfl) (s_cons (s_asg (ws := [2]) (e_op (o_add C.at_) (v_ C 2 (by kernel_rfl)) (e_lst (a_cons (e_fn C 37 (r := r_is_store) (by kernel_rfl) rfl b_is_store (by kernel_rfl) (a_cons (e_tup (a_cons (i_ 2) (a_cons (i_ 1) (a_cons (e_tup a_nil) a_nil rfl) rfl) rfl)) (a_cons (e_tup (a_cons (e_tup (a_cons (e_tup a_nil) (a_cons (e_tup (a_cons (i_ 3) (a_cons (i_ 1) a_nil rfl) rfl)) a_nil rfl) rfl)) a_nil rfl)) a_nil rfl) rfl)) (a_cons (e_fn C 37 (r := r_is_store) (by kernel_rfl) rfl b_is_store (by kernel_rfl) (a_cons (e_tup (a_cons (i_ 2) (a_cons (i_ 1) (a_cons (e_tup a_nil) a_nil rfl) rfl) rfl)) (a_cons (e_tup (a_cons (e_tup (a_cons (e_tup (a_cons (i_ 0) a_nil rfl)) (a_cons (e_tup (a_cons (i_ 3) (a_cons (i_ 1) a_nil rfl) rfl)) a_nil rfl) rfl)) a_nil rfl)) a_nil rfl) rfl)) (a_cons (e_fn C 37 (r := r_is_store) (by kernel_rfl) rfl b_is_store (by kernel_rfl) (a_cons (e_dn (v_ C 8 (by kernel_rfl))) (a_cons (e_tup a_nil) a_nil rfl) rfl)) a_nil rfl) rfl) rfl))) (gn_ C 2 (by kernel_rfl)) rfl rfl rfl) (s_cons (s_asg (ws := [3]) (e_lst (a_cons (e_op (o_add C.at_) (e_lst (a_cons (b_ true) (a_cons (b_ true) a_nil rfl) rfl)) (e_op (o_mulA C.at_) (e_lst (a_cons (b_ false) a_nil rfl)) (i_ 8))) (a_cons (b_ false) (a_cons (b_ true) (a_cons (b_ true) (a_cons (b_ false) (a_cons (b_ false) a_nil rfl) rfl) rfl) rfl) rfl) rfl)) (gn_ C 3 (by kernel_rfl)) rfl rfl rfl) (s_cons (s_asg (ws := [6]) (e_tpn (a_cons (i_ 3) (a_cons (i_ 2) (a_cons (e_tpn (a_cons (e_tup (a_cons (e_tup (a_cons (i_ 0) (a_cons (i_ 1) a_nil rfl) rfl)) (a_cons (e_tup (a_cons (i_ 1) (a_cons (i_ 1) a_nil rfl) rfl)) a_nil rfl) rfl)) (a_cons (e_tup (a_cons (e_tup (a_cons (i_ 0) (a_cons (i_ 2) a_nil rfl) rfl)) (a_cons (e_tup (a_cons (e_un o_neg (i_ 1)) (a_cons (i_ 1) a_nil rfl) rfl)) a_nil rfl) rfl)) (a_cons (e_tup (a_cons (e_tup (a_cons (i_ 1) (a_cons (i_ 0) a_nil rfl) rfl)) (a_cons (e_tup (a_cons (e_un o_neg (i_ 1)) (a_cons (i_ 1) a_nil rfl) rfl)) a_nil rfl) rfl)) (a_cons (e_tup (a_cons (e_tup (a_cons (i_ 1) (a_cons (i_ 2) a_nil rfl) rfl)) (a_cons (e_tup (a_cons (i_ 1) (a_cons (i_ 1) a_nil rfl) rfl)) a_nil rfl) rfl)) (a_cons (e_tup (a_cons (e_tup (a_cons (i_ 2) (a_cons (i_ 0) a_nil rfl) rfl)) (a_cons (e_tup (a_cons (i_ 1) (a_cons (i_ 1) a_nil rfl) rfl)) a_nil rfl) rfl)) (a_cons (e_tup (a_cons (e_tup (a_cons (i_ 2) (a_cons (i_ 1) a_nil rfl) rfl)) (a_cons (e_tup (a_cons (e_un o_neg (i_ 1)) (a_cons (i_ 1) a_nil rfl) rfl)) a_nil rfl) rfl)) a_nil rfl) rfl) rfl) rfl) rfl) rfl)) a_nil rfl) rfl) rfl)) (gn_ C 6 (by kernel_rfl)) rfl rfl rfl) (s_cons (s_asg (ws := [2]) (e_op (o_add C.at_) (v_ C 2 (by kernel_rfl)) (e_lst (a_cons (e_fn C 39 (r := r_gaining_ring) (by kernel_rfl) rfl b_gaining_ring (by kernel_rfl) (a_cons (e_dn (v_ C 9 (by kernel_rfl))) a_nil rfl)) (a_cons (e_fnK C 39 1 [0] ["gain"] (r := r_gaining_ring) (by kernel_rfl) rfl kb_gaining_ring_gain (by kernel_rfl) (kw_cons (e_fn C 55 (r := r__law_lists) (by kernel_rfl) rfl b__law_lists (by kernel_rfl) (a_cons (v_ C 0 (by kernel_rfl)) a_nil rfl)) kw_nil)) (a_cons (e_fn C 39 (r := r_gaining_ring) (by kernel_rfl) rfl b_gaining_ring (by kernel_rfl) (a_cons (e_tup (a_cons (i_ 2) (a_cons (i_ 1) (a_cons (e_tup a_nil) a_nil rfl) rfl) rfl)) a_nil rfl)) (a_cons (e_fn C 64 (r := r__law_is_ring) (by kernel_rfl) rfl b__law_is_ring (by kernel_rfl) (a_cons (e_fn C 39 (r := r_gaining_ring) (by kernel_rfl) rfl b_gaining_ring (by kernel_rfl) (a_cons (e_dn (v_ C 6 (by kernel_rfl))) a_nil rfl)) (a_cons (i_ 3) a_nil rfl) rfl)) a_nil rfl) rfl) rfl) rfl))) (gn_ C 2 (by kernel_rfl)) rfl rfl rfl) (s_cons (s_if (t_not (t_truB C.at_ (e_fn C 54 (r := r__law_same) (by kernel_rfl) rfl b__law_same (by kernel_rfl) (a_cons (v_ C 2 (by kernel_rfl)) (a_cons (e_op (o_add C.at_) (v_ C 3 (by kernel_rfl)) (e_lst (a_cons n_ (a_cons n_ (a_cons n_ (a_cons (b_ true) a_nil rfl) rfl) rfl) rfl))) a_nil rfl) rfl)) (fun _ => rfl))) (s_one (s_ret (b_ false))) s_nil) (s_cons (s_for (ws := [7]) C.at_ (i_seq C.at_ (e_tup (a_cons (v_ C 6 (by kernel_rfl)) (a_cons (v_ C 8 (by kernel_rfl)) (a_cons (v_ C 11 (by kernel_rfl)) (a_cons (v_ C 12 (by kernel_rfl)) a_nil rfl) rfl) rfl) rfl))) (gn_ C 7 (by kernel_rfl)) (s_cons (s_asg (ws := [13]) (e_fn C 39 (r := r_gaining_ring) (by kernel_rfl) rfl b_gaining_ring (by kernel_rfl) (a_cons (e_dn (v_ C 7 (by kernel_rfl))) a_nil rfl)) (gn_ C 13 (by kernel_rfl)) rfl rfl rfl) (s_one (s_if (PW.pt (t_or (t_not (t_truB C.at_ (e_fn C 64 (r := r__law_is_ring) (by kernel_rfl) rfl b__law_is_ring (by kernel_rfl) (a_cons (v_ C 13 (by kernel_rfl)) (a_cons (e_ixB C.at_ (e_dn (v_ C 7 (by kernel_rfl))) (i_ 0) (fun _ _ => rfl)) a_nil rfl) rfl)) (fun _ => rfl))) (t_or1 (t_cmp (o_eq C.at_) (e_ixB C.at_ (e_fn C 62 (r := r__law_gained) (by kernel_rfl) rfl b__law_gained (by kernel_rfl) (a_cons (v_ C 7 (by kernel_rfl)) (a_cons (v_ C 13 (by kernel_rfl)) a_nil rfl) rfl)) (i_ 0) (fun _ _ => rfl)) (i_ 0) rfl)))) (s_one (s_ret (b_ false))) s_nil))) (fun _ => rfl)) (s_one (s_ret (b_ true)))))))))))))))))))
theorem ok__law_most_right {X : Cx} {g : Cfg} {W : WX} {n : Nat} (P : Px X) (tp : Tp X) (C : Ct X B Z g W (lv n) N__law_most_right (defScope s__law_most_right).names) (Dd : Dp X g (lv n) (some false)) : PSs X (defBody s__law_most_right) (ts g W m__law_most_right) :=
  (ok_true (s_cons (s_asg (ws := [5, 6, 7, 8, 9]) (e_fn0 C 68 (r := r__law_names) (by kernel_rfl) rfl b__law_names (by kernel_rfl)) (g_tup C.at_ (gs_cons (gn_ C 5 (by kernel_rfl)) (gs_cons (gn_ C 6 (by kernel_rfl)) (gs_cons (gn_ C 7 (by kernel_rfl)) (gs_cons (gn_ C 8 (by kernel_rfl)) (gs_cons (gn_ C 9 (by kernel_rfl)) gs_nil rfl) rfl) rfl) rfl) rfl) rfl rfl) rfl rfl rfl) (s_cons (s_asg (ws := [0]) (e_tup (a_cons (i_ 1) (a_cons (i_ 2) (a_cons (e_tup (a_cons (e_tup (a_cons (e_tup (a_cons (i_ 0) (a_cons (i_ 0) a_nil rfl) rfl)) (a_cons (e_tup (a_cons (e_un o_neg (i_ 3)) (a_cons (i_ 2) a_nil rfl) rfl)) a_nil rfl) rfl)) a_nil rfl)) a_nil rfl) rfl) rfl)) (gn_ C 0 (by kernel_rfl)) rfl rfl rfl) (s_cons (s_asg (ws := [1]) (e_op (o_add C.at_) (lc_ C [(("own" : Str), 10)] (by kernel_rfl) (i_seq C.at_ (e_tup (a_cons (e_dn (v_ C 9 (by kernel_rfl))) (a_cons (e_dn (v_ C 5 (by kernel_rfl))) (a_cons (e_dn (v_ C 6 (by kernel_rfl))) (a_cons (e_dn (v_ C 8 (by kernel_rfl))) (a_cons (v_ C 0 (by kernel_rfl)) (a_cons (e_tup (a_cons (i_ 2) (a_cons (i_ 2) (a_cons (e_tup a_nil) a_nil rfl) rfl) rfl)) (a_cons (e_dn (v_ C 7 (by kernel_rfl))) a_nil rfl) rfl) rfl) rfl) rfl) rfl) rfl))) (fun C => ⟨(gn_ C 10 (by kernel_rfl)), ts_nil, (e_fn C 43 (r := r_most_step) (by kernel_rfl) rfl b_most_step (by kernel_rfl) (a_cons (v_ C 10 (by kernel_rfl)) a_nil rfl))⟩)) (e_lst (a_cons (e_fnK C 43 1 [0] ["gain"] (r := r_most_step) (by kernel_rfl) rfl kb_most_step_gain (by kernel_rfl) (kw_cons (e_fn C 55 (r := r__law_lists) (by kernel_rfl) rfl b__law_lists (by kernel_rfl) (a_cons (e_dn (v_ C 9 (by kernel_rfl))) a_nil rfl)) kw_nil)) a_nil rfl))) (gn_ C 1 (by kernel_rfl)) rfl rfl rfl) (s_cons (s_asg (ws := [2]) (e_lst (a_cons (e_tup (a_cons (i_ 1) (a_cons (i_ 1) a_nil rfl) rfl)) (a_cons (e_tup (a_cons (i_ 1) (a_cons (i_ 2) a_nil rfl) rfl)) (a_cons (e_tup (a_cons (i_ 0) (a_cons (i_ 1) a_nil rfl) rfl)) (a_cons (e_tup (a_cons (i_ 3) (a_cons (i_ 1) a_nil rfl) rfl)) (a_cons (e_tup (a_cons (e_un o_neg (i_ 3)) (a_cons (i_ 2) a_nil rfl) rfl)) (a_cons (e_tup (a_cons (i_ 0) (a_cons (i_ 1) a_nil rfl) rfl)) (a_cons (e_tup (a_cons (i_ 1) (a_cons (i_ 4) a_nil rfl) rfl)) (a_cons (e_tup (a_cons (i_ 1) (a_cons (i_ 1) a_nil rfl) rfl)) a_nil rfl) rfl) rfl) rfl) rfl) rfl) rfl) rfl)) (gn_ C 2 (by kernel_rfl)) rfl rfl rfl) (s_cons (s_if (t_not (t_truB C.at_ (e_fn C 54 (r := r__law_same) (by kernel_rfl) rfl b__law_same (by kernel_rfl) (a_cons (v_ C 1 (by kernel_rfl)) (a_cons (v_ C 2 (by kernel_rfl)) a_nil rfl) rfl)) (fun _ => rfl))) (s_one (s_ret (b_ false))) s_nil) (s_cons (s_asg (ws := [3]) (e_fnK C 40 1 [0] ["gain"] (r := r_most_ring) (by kernel_rfl) rfl kb_most_ring_gain (by kernel_rfl) (kw_cons (e_fn C 55 (r := r__law_lists) (by kernel_rfl) rfl b__law_lists (by kernel_rfl) (a_cons (e_dn (v_ C 9 (by kernel_rfl))) a_nil rfl)) kw_nil)) (gn_ C 3 (by kernel_rfl)) rfl rfl rfl) (s_cons (s_if (PW.pt (t_or (t_not (t_truB C.at_ (e_fn C 64 (r := r__law_is_ring) (by kernel_rfl) rfl b__law_is_ring (by kernel_rfl) (a_cons (v_ C 3 (by kernel_rfl)) (a_cons (i_ 3) a_nil rfl) rfl)) (fun _ => rfl))) (t_or1 (t_cmp (o_ne C.at_) (e_fn C 62 (r := r__law_gained) (by kernel_rfl) rfl b__law_gained (by kernel_rfl) (a_cons (v_ C 9 (by kernel_rfl)) (a_cons (v_ C 3 (by kernel_rfl)) a_nil rfl) rfl)) (e_tup (a_cons (bi_ C (c_len C.at_) (by kernel_rfl) (by kernel_rfl) (by kernel_rfl) (a_cons (v_ C 3 (by kernel_rfl)) a_nil rfl)) (a_cons (i_ 1) a_nil rfl) rfl)) rfl)))) (s_one (s_ret (b_ false))) s_nil) (s_cons (s_asg (ws := [4]) (e_lst (a_cons (e_tup (a_cons (e_tup (a_cons (e_tup (a_cons (i_ 1) a_nil rfl)) (a_cons (e_tup (a_cons (i_ 1) (a_cons (i_ 1) a_nil rfl) rfl)) a_nil rfl) rfl)) (a_cons (e_tup (a_cons (e_tup (a_cons (i_ 2) a_nil rfl)) (a_cons (e_tup (a_cons (i_ 2) (a_cons (i_ 1) a_nil rfl) rfl)) a_nil rfl) rfl)) a_nil rfl) rfl)) (a_cons (e_tup (a_cons (e_tup (a_cons (e_tup (a_cons (i_ 0) a_nil rfl)) (a_cons (e_tup (a_cons (e_un o_neg (i_ 1)) (a_cons (i_ 1) a_nil rfl) rfl)) a_nil rfl) rfl)) (a_cons (e_tup (a_cons (e_tup (a_cons (i_ 2) a_nil rfl)) (a_cons (e_tup (a_cons (i_ 1) (a_cons (i_ 1) a_nil rfl) rfl)) a_nil rfl) rfl)) a_nil rfl) rfl)) (a_cons (e_tup (a_cons (e_tup (a_cons (e_tup (a_cons (i_ 1) a_nil rfl)) (a_cons (e_tup (a_cons (i_ 1) (a_cons (i_ 1) a_nil rfl) rfl)) a_nil rfl) rfl)) a_nil rfl)) a_nil rfl) rfl) rfl)) (gn_ C 4 (by kernel_rfl)) rfl rfl rfl) (s_cons (s_asg (ws := [4]) (e_op (o_add C.at_) (v_ C 4 (by kernel_rfl)) (e_lst (a_cons (ty_ C (c_listA C.at_) (by kernel_rfl) (by kernel_rfl) (by kernel_rfl) (a_cons (e_ixB C.at_ (v_ C 4 (by kernel_rfl)) (i_ 0) (fun _ _ => rfl)) a_nil rfl)) (a_cons n_ (a_cons (e_revS C.at_ (e_ixB C.at_ (v_ C 4 (by kernel_rfl)) (i_ 0) (fun _ _ => rfl)) (o_some (e_un o_neg (i_ 1)))) a_nil rfl) rfl) rfl))) (gn_ C 4 (by kernel_rfl)) rfl rfl rfl) (s_cons (s_asg (ws := [1]) (e_lst (a_cons (lc_ C [(("own" : Str), 10)] (by kernel_rfl) (i_seq C.at_ (v_ C 4 (by kernel_rfl))) (fun C => ⟨(gn_ C 10 (by kernel_rfl)), ts_nil, (e_fn C 45 (r := r_is_most_store) (by kernel_rfl) rfl b_is_most_store (by kernel_rfl) (a_cons (e_dn (v_ C 9 (by kernel_rfl))) (a_cons (e_tup (a_cons (i_ 1) (a_cons (i_ 1) a_nil rfl) rfl)) (a_cons (v_ C 10 (by kernel_rfl)) a_nil rfl) rfl) rfl))⟩)) (a_cons (e_fn C 45 (r := r_is_most_store) (by kernel_rfl) rfl b_is_most_store (by kernel_rfl) (a_cons (e_dn (v_ C 9 (by kernel_rfl))) (a_cons (e_tup (a_cons (i_ 99) (a_cons (i_ 100) a_nil rfl) rfl)) (a_cons (e_ixB C.at_ (v_ C 4 (by kernel_rfl)) (i_ 0) (fun _ _ => rfl)) a_nil rfl) rfl) rfl)) a_nil rfl) rfl)) (gn_ C 1 (by kernel_rfl)) rfl rfl rfl) (s_cons (s_expr (e_mt C.at_ PySem.F.slot_list_append PySem.F.type_list_append mt_append app_s (v_ C 1 (by kernel_rfl)) (a_cons (e_fnK C 45 3 [2, 1, 0] ["thing", "bound", "gain"] (r := r_is_most_store) (by kernel_rfl) rfl kb_is_most_store_thing_bound_gain (by kernel_rfl) (kw_cons (e_ixB C.at_ (v_ C 4 (by kernel_rfl)) (i_ 0) (fun _ _ => rfl)) (kw_cons (e_lst (a_cons (i_ 2) (a_cons (i_ 1) a_nil rfl) rfl)) (kw_cons (e_fn C 55 (r := r__law_lists) (by kernel_rfl) rfl b__law_lists (by kernel_rfl) (a_cons (e_dn (v_ C 9 (by kernel_rfl))) a_nil rfl)) kw_nil)))) a_nil rfl)) rfl) (s_cons (s_asg (ws := [1]) (e_op (o_add C.at_) (v_ C 1 (by kernel_rfl)) (e_lst (a_cons (e_fn C 45 (r := r_is_most_store) (by kernel_rfl) rfl b_is_most_store (by kernel_rfl) (a_cons (e_dn (v_ C 5 (by kernel_rfl))) (a_cons (e_tup (a_cons (i_ 1) (a_cons (i_ 2) a_nil rfl) rfl)) (a_cons (e_tup (a_cons (e_tup (a_cons (e_tup (a_cons (i_ 1) a_nil rfl)) (a_cons (e_tup (a_cons (i_ 1) (a_cons (i_ 2) a_nil rfl) rfl)) a_nil rfl) rfl)) a_nil rfl)) a_nil rfl) rfl) rfl)) (a_cons (e_fn C 45 (r := r_is_most_store) (by kernel_rfl) rfl b_is_most_store (by kernel_rfl) (a_cons (e_dn (v_ C 5 (by kernel_rfl))) (a_cons (e_tup (a_cons (i_ 1) (a_cons (i_ 2) a_nil rfl) rfl)) (a_cons (e_tup a_nil) a_nil rfl) rfl) rfl)) (a_cons (e_fn C 45 (r := r_is_most_store) (by kernel_rfl) rfl b_is_most_store (by kernel_rfl) (a_cons (e_dn (v_ C 5 (by kernel_rfl))) (a_cons (e_tup (a_cons (i_ 1) (a_cons (i_ 1) a_nil rfl) rfl)) (a_cons (e_tup a_nil) a_nil rfl) rfl) rfl)) (a_cons (e_fn C 45 (r := r_is_most_store) (by kernel_rfl) rfl b_is_most_store (by kernel_rfl) (a_cons (v_ C 0 (by kernel_rfl)) (a_cons (e_tup (a_cons (e_un o_neg (i_ 3)) (a_cons (i_ 2) a_nil rfl) rfl)) (a_cons (e_tup a_nil) a_nil rfl) rfl) rfl)) a_nil rfl) rfl) rfl) rfl))) (gn_ C 1 (by kernel_rfl)) rfl rfl rfl) (s_cons (s_asg (ws := [2]) (e_lst (a_cons (e_op (o_add C.at_) (e_lst (a_cons (b_ true) (a_cons (b_ true) a_nil rfl) rfl)) (e_op (o_mulA C.at_) (e_lst (a_cons (b_ false) a_nil rfl)) (i_ 4))) (a_cons (b_ false) (a_cons (b_ true) (a_cons (b_ true) (a_cons (b_ false) (a_cons (b_ true) (a_cons (b_ true) a_nil rfl) rfl) rfl) rfl) rfl) rfl) rfl)) (gn_ C 2 (by kernel_rfl)) rfl rfl rfl) (s_cons (s_asg (ws := [1]) (e_op (o_add C.at_) (v_ C 1 (by kernel_rfl)) (e_lst (a_cons (e_fn C 69 (r := r__law_heard) (by kernel_rfl) rfl b__law_heard (by kernel_rfl) (a_cons (i_ 1) (a_cons (e_dn (v_ C 9 (by kernel_rfl))) (a_cons (e_tup (a_cons (i_ 99) (a_cons (i_ 100) a_nil rfl) rfl)) a_nil rfl) rfl) rfl)) (a_cons (e_fn C 69 (r := r__law_heard) (by kernel_rfl) rfl b__law_heard (by kernel_rfl) (a_cons (i_ 1) (a_cons (e_dn (v_ C 5 (by kernel_rfl))) (a_cons (e_tup (a_cons (i_ 0) (a_cons (i_ 1) a_nil rfl) rfl)) a_nil rfl) rfl) rfl)) (a_cons (e_fn C 69 (r := r__law_heard) (by kernel_rfl) rfl b__law_heard (by kernel_rfl) (a_cons (i_ 1) (a_cons (v_ C 0 (by kernel_rfl)) (a_cons (e_tup (a_cons (e_un o_neg (i_ 2)) (a_cons (i_ 1) a_nil rfl) rfl)) a_nil rfl) rfl) rfl)) a_nil rfl) rfl) rfl))) (gn_ C 1 (by kernel_rfl)) rfl rfl rfl) (s_cons (s_expr (e_mt C.at_ PySem.F.slot_list_append PySem.F.type_list_append mt_append app_s (v_ C 1 (by kernel_rfl)) (a_cons (e_fn C 45 (r := r_is_most_store) (by kernel_rfl) rfl b_is_most_store (by kernel_rfl) (a_cons (e_dn (v_ C 9 (by kernel_rfl))) (a_cons (e_tup (a_cons (i_ 1) (a_cons (i_ 1) a_nil rfl) rfl)) (a_cons (e_fnK C 44 2 [1, 0] ["bound", "gain"] (r := r_most_store) (by kernel_rfl) rfl kb_most_store_bound_gain (by kernel_rfl) (kw_cons (e_lst (a_cons (i_ 1) (a_cons (i_ 1) a_nil rfl) rfl)) (kw_cons (e_fn C 55 (r := r__law_lists) (by kernel_rfl) rfl b__law_lists (by kernel_rfl) (a_cons (e_dn (v_ C 9 (by kernel_rfl))) a_nil rfl)) kw_nil))) a_nil rfl) rfl) rfl)) a_nil rfl)) rfl) (s_one (s_ret (e_fn C 54 (r := r__law_same) (by kernel_rfl) rfl b__law_same (by kernel_rfl) (a_cons (v_ C 1 (by kernel_rfl)) (a_cons (e_op (o_add C.at_) (e_op (o_add C.at_) (v_ C 2 (by kernel_rfl)) (e_op (o_mulA C.at_) (e_lst (a_cons (e_lst (a_cons (s_ "can not") (a_cons (b_ true) a_nil rfl) rfl)) a_nil rfl)) (i_ 3))) (e_lst (a_cons (b_ true) a_nil rfl))) a_nil rfl) rfl))))))))))))))))))))
theorem ok__law_forms_right {X : Cx} {g : Cfg} {W : WX} {n : Nat} (P : Px X) (tp : Tp X) (C : Ct X B Z g W (lv n) N__law_forms_right (defScope s__law_forms_right).names) (Dd : Dp X g (lv n) (some false)) : PSs X (defBody s__law_forms_right) (ts g W m__law_forms_right) :=
  (ok_true (s_cons (s_asg (ws := [6, 7]) (e_tup (a_cons (e_tup (a_cons (e_tup (a_cons (e_tup (a_cons (e_tup (a_cons (i_ 0) a_nil rfl)) (a_cons (e_tup (a_cons (i_ 1) a_nil rfl)) a_nil rfl) rfl)) (a_cons (e_tup (a_cons (i_ 1) (a_cons (i_ 1) a_nil rfl) rfl)) a_nil rfl) rfl)) (a_cons (e_tup (a_cons (e_tup (a_cons (e_tup (a_cons (i_ 1) a_nil rfl)) (a_cons (e_tup (a_cons (i_ 0) a_nil rfl)) a_nil rfl) rfl)) (a_cons (e_tup (a_cons (e_un o_neg (i_ 1)) (a_cons (i_ 1) a_nil rfl) rfl)) a_nil rfl) rfl)) a_nil rfl) rfl)) (a_cons (e_tup (a_cons (e_tup (a_cons (e_tup (a_cons (e_tup (a_cons (i_ 1) a_nil rfl)) (a_cons (e_tup (a_cons (i_ 1) a_nil rfl)) a_nil rfl) rfl)) (a_cons (e_tup (a_cons (i_ 1) (a_cons (i_ 1) a_nil rfl) rfl)) a_nil rfl) rfl)) (a_cons (e_tup (a_cons (e_tup (a_cons (e_tup (a_cons (i_ 2) a_nil rfl)) (a_cons (e_tup (a_cons (i_ 0) a_nil rfl)) a_nil rfl) rfl)) (a_cons (e_tup (a_cons (e_un o_neg (i_ 1)) (a_cons (i_ 1) a_nil rfl) rfl)) a_nil rfl) rfl)) a_nil rfl) rfl)) a_nil rfl) rfl)) (g_tup C.at_ (gs_cons (gn_ C 6 (by kernel_rfl)) (gs_cons (gn_ C 7 (by kernel_rfl)) gs_nil rfl) rfl) rfl rfl) rfl (swp_const (by kernel_rfl)) rfl) (s_cons (s_asg (ws := [0]) (e_tup (a_cons (e_tup (a_cons (e_tup (a_cons (e_tup (a_cons (i_ 0) a_nil rfl)) (a_cons (e_tup (a_cons (i_ 0) a_nil rfl)) (a_cons (e_tup (a_cons (i_ 1) a_nil rfl)) a_nil rfl) rfl) rfl)) (a_cons (e_tup (a_cons (i_ 1) (a_cons (i_ 1) a_nil rfl) rfl)) a_nil rfl) rfl)) (a_cons (e_tup (a_cons (e_tup (a_cons (e_tup (a_cons (i_ 0) a_nil rfl)) (a_cons (e_tup (a_cons (i_ 1) a_nil rfl)) (a_cons (e_tup (a_cons (i_ 0) a_nil rfl)) a_nil rfl) rfl) rfl)) (a_cons (e_tup (a_cons (e_un o_neg (i_ 2)) (a_cons (i_ 1) a_nil rfl) rfl)) a_nil rfl) rfl)) (a_cons (e_tup (a_cons (e_tup (a_cons (e_tup (a_cons (i_ 1) a_nil rfl)) (a_cons (e_tup (a_cons (i_ 0) a_nil rfl)) (a_cons (e_tup (a_cons (i_ 0) a_nil rfl)) a_nil rfl) rfl) rfl)) (a_cons (e_tup (a_cons (i_ 1) (a_cons (i_ 1) a_nil rfl) rfl)) a_nil rfl) rfl)) a_nil rfl) rfl) rfl)) (gn_ C 0 (by kernel_rfl)) rfl rfl rfl) (s_cons (s_asg (ws := [1]) (e_tup (a_cons (e_tup (a_cons (e_tup (a_cons (e_tup (a_cons (i_ 0) (a_cons (i_ 0) a_nil rfl) rfl)) (a_cons (e_tup (a_cons (i_ 1) (a_cons (i_ 1) a_nil rfl) rfl)) a_nil rfl) rfl)) (a_cons (e_tup (a_cons (i_ 1) (a_cons (i_ 1) a_nil rfl) rfl)) a_nil rfl) rfl)) (a_cons (e_tup (a_cons (e_tup (a_cons (e_tup (a_cons (i_ 1) (a_cons (i_ 1) a_nil rfl) rfl)) (a_cons (e_tup (a_cons (i_ 0) (a_cons (i_ 0) a_nil rfl) rfl)) a_nil rfl) rfl)) (a_cons (e_tup (a_cons (e_un o_neg (i_ 1)) (a_cons (i_ 1) a_nil rfl) rfl)) a_nil rfl) rfl)) a_nil rfl) rfl)) (gn_ C 1 (by kernel_rfl)) rfl rfl rfl) (s_cons (s_asg (ws := [2]) (e_tup (a_cons (e_tup (a_cons (e_tup (a_cons (e_tup (a_cons (i_ 1) a_nil rfl)) (a_cons (e_tup (a_cons (i_ 0) a_nil rfl)) (a_cons (e_tup (a_cons (i_ 1) a_nil rfl)) a_nil rfl) rfl) rfl)) (a_cons (e_tup (a_cons (i_ 1) (a_cons (i_ 1) a_nil rfl) rfl)) a_nil rfl) rfl)) (a_cons (e_tup (a_cons (e_tup (a_cons (e_tup (a_cons (i_ 1) a_nil rfl)) (a_cons (e_tup (a_cons (i_ 1) a_nil rfl)) (a_cons (e_tup (a_cons (i_ 0) a_nil rfl)) a_nil rfl) rfl) rfl)) (a_cons (e_tup (a_cons (e_un o_neg (i_ 1)) (a_cons (i_ 1) a_nil rfl) rfl)) a_nil rfl) rfl)) a_nil rfl) rfl)) (gn_ C 2 (by kernel_rfl)) rfl rfl rfl) (s_cons (setLc_ C 3 [(("own" : Str), 8), (("n_so" : Str), 9)] (by kernel_rfl) (by kernel_rfl) (by kernel_rfl) (by kernel_rfl) (by kernel_rfl) (i_seq C.at_ (e_tup (a_cons (e_tup (a_cons (v_ C 6 (by kernel_rfl)) (a_cons (i_ 2) a_nil rfl) rfl)) (a_cons (e_tup (a_cons (v_ C 7 (by kernel_rfl)) (a_cons (i_ 2) a_nil rfl) rfl)) (a_cons (e_tup (a_cons (v_ C 0 (by kernel_rfl)) (a_cons (i_ 3) a_nil rfl) rfl)) (a_cons (e_tup (a_cons (v_ C 2 (by kernel_rfl)) (a_cons (i_ 3) a_nil rfl) rfl)) (a_cons (e_tup (a_cons (e_tup a_nil) (a_cons (i_ 2) a_nil rfl) rfl)) (a_cons (e_tup (a_cons (e_tup a_nil) (a_cons (i_ 1) a_nil rfl) rfl)) (a_cons (e_tup (a_cons (e_tup (a_cons (e_tup (a_cons (e_tup (a_cons (e_tup (a_cons (i_ 1) a_nil rfl)) a_nil rfl)) (a_cons (e_tup (a_cons (i_ 1) (a_cons (i_ 1) a_nil rfl) rfl)) a_nil rfl) rfl)) a_nil rfl)) (a_cons (i_ 1) a_nil rfl) rfl)) a_nil rfl) rfl) rfl) rfl) rfl) rfl) rfl))) (fun C => ⟨(g_tup C.at_ (gs_cons (gn_ C 8 (by kernel_rfl)) (gs_cons (gn_ C 9 (by kernel_rfl)) gs_nil rfl) rfl) rfl rfl), ts_nil, (e_fn C 69 (r := r__law_heard) (by kernel_rfl) rfl b__law_heard (by kernel_rfl) (a_cons (i_ 2) (a_cons (v_ C 8 (by kernel_rfl)) (a_cons (v_ C 9 (by kernel_rfl)) a_nil rfl) rfl) rfl))⟩)) (s_cons (s_asg (ws := [4]) (e_lst (a_cons (e_tup (a_cons (e_tup (a_cons (e_tup (a_cons (e_tup (a_cons (i_ 1) a_nil rfl)) a_nil rfl)) (a_cons (e_tup (a_cons (i_ 1) (a_cons (i_ 1) a_nil rfl) rfl)) a_nil rfl) rfl)) a_nil rfl)) (a_cons (e_lst (a_cons (s_ "can not") (a_cons (b_ true) a_nil rfl) rfl)) (a_cons (v_ C 6 (by kernel_rfl)) (a_cons (e_lst (a_cons (s_ "can not") (a_cons (b_ true) a_nil rfl) rfl)) (a_cons (e_tup a_nil) (a_cons (e_tup a_nil) (a_cons (e_lst (a_cons (s_ "can not") (a_cons (b_ true) a_nil rfl) rfl)) a_nil rfl) rfl) rfl) rfl) rfl) rfl) rfl)) (gn_ C 4 (by kernel_rfl)) rfl rfl rfl) (s_cons (s_asg (ws := [3]) (e_op (o_add C.at_) (v_ C 3 (by kernel_rfl)) (e_lst (a_cons (e_fn C 69 (r := r__law_heard) (by kernel_rfl) rfl b__law_heard (by kernel_rfl) (a_cons (i_ 2) (a_cons (e_tup (a_cons (e_tup (a_cons (e_tup (a_cons (e_tup (a_cons (i_ 0) a_nil rfl)) (a_cons (e_tup (a_cons (i_ 0) a_nil rfl)) a_nil rfl) rfl)) (a_cons (e_tup (a_cons (i_ 1) (a_cons (i_ 1) a_nil rfl) rfl)) a_nil rfl) rfl)) a_nil rfl)) (a_cons (i_ 2) a_nil rfl) rfl) rfl)) (a_cons (e_fn C 46 (r := r_form_store) (by kernel_rfl) rfl b_form_store (by kernel_rfl) (a_cons (v_ C 1 (by kernel_rfl)) (a_cons (i_ 2) (a_cons (i_ 2) a_nil rfl) rfl) rfl)) (a_cons (e_fnK C 46 3 [2, 1, 0] ["c", "n", "form"] (r := r_form_store) (by kernel_rfl) rfl kb_form_store_c_n_form (by kernel_rfl) (kw_cons (i_ 1) (kw_cons (i_ 3) (kw_cons (e_fn C 55 (r := r__law_lists) (by kernel_rfl) rfl b__law_lists (by kernel_rfl) (a_cons (v_ C 0 (by kernel_rfl)) a_nil rfl)) kw_nil)))) a_nil rfl) rfl) rfl))) (gn_ C 3 (by kernel_rfl)) rfl rfl rfl) (s_cons (s_asg (ws := [4]) (e_op (o_add C.at_) (v_ C 4 (by kernel_rfl)) (e_lst (a_cons (e_lst (a_cons (s_ "can not") (a_cons (b_ true) a_nil rfl) rfl)) (a_cons (e_tup (a_cons (e_tup (a_cons (e_tup (a_cons (e_tup (a_cons (i_ 1) (a_cons (i_ 1) a_nil rfl) rfl)) a_nil rfl)) (a_cons (e_tup (a_cons (i_ 1) (a_cons (i_ 1) a_nil rfl) rfl)) a_nil rfl) rfl)) a_nil rfl)) (a_cons (v_ C 6 (by kernel_rfl)) a_nil rfl) rfl) rfl))) (gn_ C 4 (by kernel_rfl)) rfl rfl rfl) (s_cons (s_asg (ws := [5]) (e_tup (a_cons (e_tup (a_cons (e_tup (a_cons (i_ 1) (a_cons (i_ 1) a_nil rfl) rfl)) a_nil rfl)) (a_cons (e_tup (a_cons (e_tup (a_cons (i_ 2) (a_cons (i_ 1) a_nil rfl) rfl)) a_nil rfl)) a_nil rfl) rfl)) (gn_ C 5 (by kernel_rfl)) rfl rfl rfl) (s_cons (s_asg (ws := [3]) (e_op (o_add C.at_) (v_ C 3 (by kernel_rfl)) (e_lst (a_cons (e_fn C 49 (r := r_ring_sum) (by kernel_rfl) rfl b_ring_sum (by kernel_rfl) (a_cons (v_ C 7 (by kernel_rfl)) (a_cons (i_ 2) (a_cons (v_ C 5 (by kernel_rfl)) a_nil rfl) rfl) rfl)) (a_cons (e_fn C 49 (r := r_ring_sum) (by kernel_rfl) rfl b_ring_sum (by kernel_rfl) (a_cons (v_ C 7 (by kernel_rfl)) (a_cons (i_ 2) (a_cons (e_sl C.at_ (v_ C 5 (by kernel_rfl)) o_none (o_some (i_ 1))) a_nil rfl) rfl) rfl)) (a_cons (e_fnK C 49 3 [2, 1, 0] ["rows", "n", "form"] (r := r_ring_sum) (by kernel_rfl) rfl kb_ring_sum_rows_n_form (by kernel_rfl) (kw_cons (e_fn C 55 (r := r__law_lists) (by kernel_rfl) rfl b__law_lists (by kernel_rfl) (a_cons (v_ C 5 (by kernel_rfl)) a_nil rfl)) (kw_cons (i_ 3) (kw_cons (e_fn C 55 (r := r__law_lists) (by kernel_rfl) rfl b__law_lists (by kernel_rfl) (a_cons (v_ C 2 (by kernel_rfl)) a_nil rfl)) kw_nil)))) (a_cons (e_fn C 49 (r := r_ring_sum) (by kernel_rfl) rfl b_ring_sum (by kernel_rfl) (a_cons (v_ C 0 (by kernel_rfl)) (a_cons (i_ 3) (a_cons (v_ C 5 (by kernel_rfl)) a_nil rfl) rfl) rfl)) a_nil rfl) rfl) rfl) rfl))) (gn_ C 3 (by kernel_rfl)) rfl rfl rfl) (s_cons (s_asg (ws := [4]) (e_op (o_add C.at_) (v_ C 4 (by kernel_rfl)) (e_lst (a_cons (e_tup (a_cons (e_un o_neg (i_ 1)) (a_cons (i_ 1) a_nil rfl) rfl)) (a_cons (e_tup (a_cons (i_ 0) (a_cons (i_ 1) a_nil rfl) rfl)) (a_cons (e_tup (a_cons (i_ 1) (a_cons (i_ 1) a_nil rfl) rfl)) (a_cons (e_tup (a_cons (i_ 0) (a_cons (i_ 1) a_nil rfl) rfl)) a_nil rfl) rfl) rfl) rfl))) (gn_ C 4 (by kernel_rfl)) rfl rfl rfl) (s_cons (s_asg (ws := [3]) (e_op (o_add C.at_) (v_ C 3 (by kernel_rfl)) (e_lst (a_cons (e_fn C 50 (r := r_form_ring) (by kernel_rfl) rfl b_form_ring (by kernel_rfl) (a_cons (v_ C 6 (by kernel_rfl)) (a_cons (i_ 2) (a_cons (i_ 1) a_nil rfl) rfl) rfl)) (a_cons (e_fnK C 50 3 [2, 1, 0] ["c", "n", "form"] (r := r_form_ring) (by kernel_rfl) rfl kb_form_ring_c_n_form (by kernel_rfl) (kw_cons (i_ 1) (kw_cons (i_ 3) (kw_cons (e_fn C 55 (r := r__law_lists) (by kernel_rfl) rfl b__law_lists (by kernel_rfl) (a_cons (v_ C 0 (by kernel_rfl)) a_nil rfl)) kw_nil)))) (a_cons (e_fn C 50 (r := r_form_ring) (by kernel_rfl) rfl b_form_ring (by kernel_rfl) (a_cons (e_tup a_nil) (a_cons (i_ 1) (a_cons (i_ 2) a_nil rfl) rfl) rfl)) a_nil rfl) rfl) rfl))) (gn_ C 3 (by kernel_rfl)) rfl rfl rfl) (s_cons (s_if (t_not (t_truB C.at_ (e_fn C 54 (r := r__law_same) (by kernel_rfl) rfl b__law_same (by kernel_rfl) (a_cons (v_ C 3 (by kernel_rfl)) (a_cons (e_op (o_add C.at_) (v_ C 4 (by kernel_rfl)) (e_lst (a_cons n_ (a_cons n_ (a_cons n_ a_nil rfl) rfl) rfl))) a_nil rfl) rfl)) (fun _ => rfl))) (s_one (s_ret (b_ false))) s_nil) (s_cons (s_for (ws := [8, 9]) C.at_ (i_seq C.at_ (e_tup (a_cons (e_tup (a_cons (v_ C 7 (by kernel_rfl)) (a_cons (i_ 2) a_nil rfl) rfl)) (a_cons (e_tup (a_cons (v_ C 2 (by kernel_rfl)) (a_cons (i_ 3) a_nil rfl) rfl)) (a_cons (e_tup (a_cons (e_tup (a_cons (e_tup (a_cons (e_tup (a_cons (e_tup (a_cons (i_ 0) a_nil rfl)) (a_cons (e_tup (a_cons (i_ 0) a_nil rfl)) a_nil rfl) rfl)) (a_cons (e_tup (a_cons (i_ 1) (a_cons (i_ 1) a_nil rfl) rfl)) a_nil rfl) rfl)) a_nil rfl)) (a_cons (i_ 2) a_nil rfl) rfl)) (a_cons (e_tup (a_cons (e_tup (a_cons (e_tup (a_cons (e_tup (a_cons (e_tup (a_cons (i_ 1) a_nil rfl)) a_nil rfl)) (a_cons (e_tup (a_cons (i_ 1) (a_cons (i_ 1) a_nil rfl) rfl)) a_nil rfl) rfl)) a_nil rfl)) (a_cons (i_ 1) a_nil rfl) rfl)) a_nil rfl) rfl) rfl) rfl))) (g_tup C.at_ (gs_cons (gn_ C 8 (by kernel_rfl)) (gs_cons (gn_ C 9 (by kernel_rfl)) gs_nil rfl) rfl) rfl rfl) (s_cons (s_asg (ws := [10]) (e_fn C 50 (r := r_form_ring) (by kernel_rfl) rfl b_form_ring (by kernel_rfl) (a_cons (v_ C 8 (by kernel_rfl)) (a_cons (v_ C 9 (by kernel_rfl)) (a_cons (i_ 1) a_nil rfl) rfl) rfl)) (gn_ C 10 (by kernel_rfl)) rfl rfl rfl) (s_one (s_if (PW.pt (t_or (t_not (t_truB C.at_ (e_fn C 67 (r := r__law_are_rows) (by kernel_rfl) rfl b__law_are_rows (by kernel_rfl) (a_cons (v_ C 10 (by kernel_rfl)) (a_cons (i_ 1) a_nil rfl) rfl)) (fun _ => rfl))) (t_or1 (t_cmp (o_eq C.at_) (e_ixB C.at_ (e_fn C 66 (r := r__law_round) (by kernel_rfl) rfl b__law_round (by kernel_rfl) (a_cons (v_ C 8 (by kernel_rfl)) (a_cons (v_ C 9 (by kernel_rfl)) (a_cons (v_ C 10 (by kernel_rfl)) a_nil rfl) rfl) rfl)) (i_ 0) (fun _ _ => rfl)) (i_ 0) rfl)))) (s_one (s_ret (b_ false))) s_nil))) (fun _ => rfl)) (s_one (s_ret (b_ true))))))))))))))))))
theorem ok_law {X : Cx} {g : Cfg} {W : WX} {n : Nat} (P : Px X) (tp : Tp X) (C : Ct X B Z g W (lv n) N_law (defScope s_law).names) (Dd : Dp X g (lv n) (some false)) : PSs X (defBody s_law) (ts g W m_law) :=
  (s_cons (s_if (PW.pt (t_or (t_not (t_truB C.at_ (e_fn0 C 71 (r := r__law_rings_right) (by kernel_rfl) rfl b__law_rings_right (by kernel_rfl)) (fun _ => rfl))) (t_or1 (t_not (t_truB C.at_ (e_fn0 C 72 (r := r__law_stores_right) (by kernel_rfl) rfl b__law_stores_right (by kernel_rfl)) (fun _ => rfl)))))) (s_one (s_ret (b_ false))) s_nil) (s_cons (s_asg (ws := [1]) (e_fn C 52 (r := r__law_take) (by kernel_rfl) rfl b__law_take (by kernel_rfl) (a_cons (e_fn C 51 (r := r__law_box) (by kernel_rfl) rfl b__law_box (by kernel_rfl) (a_cons (e_fn C 53 (r := r__law_cells) (by kernel_rfl) rfl b__law_cells (by kernel_rfl) (a_cons (v_ C 0 (by kernel_rfl)) (a_cons (i_ 1) a_nil rfl) rfl)) (a_cons (i_ 0) a_nil rfl) rfl)) (a_cons (i_ 3) a_nil rfl) rfl)) (gn_ C 1 (by kernel_rfl)) rfl rfl rfl) (s_cons (s_if (t_cmp (o_eq C.at_) (v_ C 1 (by kernel_rfl)) (i_ 0) rfl) (s_one (s_ret (e_fn0 C 70 (r := r__law_things_right) (by kernel_rfl) rfl b__law_things_right (by kernel_rfl)))) s_nil) (s_one (s_ret (e_if (t_cmp (o_eq C.at_) (v_ C 1 (by kernel_rfl)) (i_ 1) rfl) (e_fn0 C 73 (r := r__law_most_right) (by kernel_rfl) rfl b__law_most_right (by kernel_rfl)) (e_fn0 C 74 (r := r__law_forms_right) (by kernel_rfl) rfl b__law_forms_right (by kernel_rfl))))))))
theorem row_lowest : RowOk B Z Px r_lowest := ⟨⟨rfl, rfl, rfl, by decide +kernel, rfl, by decide +kernel, by decide +kernel⟩, fun P tp C Dd => ok_lowest P tp C Dd⟩
theorem row_plus : RowOk B Z Px r_plus := ⟨⟨rfl, rfl, rfl, by decide +kernel, rfl, by decide +kernel, by decide +kernel⟩, fun P tp C Dd => ok_plus P tp C Dd⟩
theorem row_less : RowOk B Z Px r_less := ⟨⟨rfl, rfl, rfl, by decide +kernel, rfl, by decide +kernel, by decide +kernel⟩, fun P tp C Dd => ok_less P tp C Dd⟩
theorem row_times : RowOk B Z Px r_times := ⟨⟨rfl, rfl, rfl, by decide +kernel, rfl, by decide +kernel, by decide +kernel⟩, fun P tp C Dd => ok_times P tp C Dd⟩
theorem row_over : RowOk B Z Px r_over := ⟨⟨rfl, rfl, rfl, by decide +kernel, rfl, by decide +kernel, by decide +kernel⟩, fun P tp C Dd => ok_over P tp C Dd⟩
theorem row_is_below : RowOk B Z Px r_is_below := ⟨⟨rfl, rfl, rfl, by decide +kernel, rfl, by decide +kernel, by decide +kernel⟩, fun P tp C Dd => ok_is_below P tp C Dd⟩
theorem row_total : RowOk B Z Px r_total := ⟨⟨rfl, rfl, rfl, by decide +kernel, rfl, by decide +kernel, by decide +kernel⟩, fun P tp C Dd => ok_total P tp C Dd⟩
theorem row_whole_power : RowOk B Z Px r_whole_power := ⟨⟨rfl, rfl, rfl, by decide +kernel, rfl, by decide +kernel, by decide +kernel⟩, fun P tp C Dd => ok_whole_power P tp C Dd⟩
theorem row_power : RowOk B Z Px r_power := ⟨⟨rfl, rfl, rfl, by decide +kernel, rfl, by decide +kernel, by decide +kernel⟩, fun P tp C Dd => ok_power P tp C Dd⟩
theorem row_common_bottom : RowOk B Z Px r_common_bottom := ⟨⟨rfl, rfl, rfl, by decide +kernel, rfl, by decide +kernel, by decide +kernel⟩, fun P tp C Dd => ok_common_bottom P tp C Dd⟩
theorem row_whole : RowOk B Z Px r_whole := ⟨⟨rfl, rfl, rfl, by decide +kernel, rfl, by decide +kernel, by decide +kernel⟩, fun P tp C Dd => ok_whole P tp C Dd⟩
theorem row_sums_by_key : RowOk B Z Px r_sums_by_key := ⟨⟨rfl, rfl, rfl, by decide +kernel, rfl, by decide +kernel, by decide +kernel⟩, fun P tp C Dd => ok_sums_by_key P tp C Dd⟩
theorem row_primes : RowOk B Z Px r_primes := ⟨⟨rfl, rfl, rfl, by decide +kernel, rfl, by decide +kernel, by decide +kernel⟩, fun P tp C Dd => ok_primes P tp C Dd⟩
theorem row_free_rows : RowOk B Z Px r_free_rows := ⟨⟨rfl, rfl, rfl, by decide +kernel, rfl, by decide +kernel, by decide +kernel⟩, fun P tp C Dd => ok_free_rows P tp C Dd⟩
theorem row_monomial : RowOk B Z Px r_monomial := ⟨⟨rfl, rfl, rfl, by decide +kernel, rfl, by decide +kernel, by decide +kernel⟩, fun P tp C Dd => ok_monomial P tp C Dd⟩
theorem row_value_at : RowOk B Z Px r_value_at := ⟨⟨rfl, rfl, rfl, by decide +kernel, rfl, by decide +kernel, by decide +kernel⟩, fun P tp C Dd => ok_value_at P tp C Dd⟩
theorem row_scaled : RowOk B Z Px r_scaled := ⟨⟨rfl, rfl, rfl, by decide +kernel, rfl, by decide +kernel, by decide +kernel⟩, fun P tp C Dd => ok_scaled P tp C Dd⟩
theorem row_placed : RowOk B Z Px r_placed := ⟨⟨rfl, rfl, rfl, by decide +kernel, rfl, by decide +kernel, by decide +kernel⟩, fun P tp C Dd => ok_placed P tp C Dd⟩
theorem row_as_tuples : RowOk B Z Px r_as_tuples := ⟨⟨rfl, rfl, rfl, by decide +kernel, rfl, by decide +kernel, by decide +kernel⟩, fun P tp C Dd => ok_as_tuples P tp C Dd⟩
theorem row_is_number : RowOk B Z Px r_is_number := ⟨⟨rfl, rfl, rfl, by decide +kernel, rfl, by decide +kernel, by decide +kernel⟩, fun P tp C Dd => ok_is_number P tp C Dd⟩
theorem row_is_tuple_of : RowOk B Z Px r_is_tuple_of := ⟨⟨rfl, rfl, rfl, by decide +kernel, rfl, by decide +kernel, by decide +kernel⟩, fun P tp C Dd => ok_is_tuple_of P tp C Dd⟩
theorem row_is_fraction : RowOk B Z Px r_is_fraction := ⟨⟨rfl, rfl, rfl, by decide +kernel, rfl, by decide +kernel, by decide +kernel⟩, fun P tp C Dd => ok_is_fraction P tp C Dd⟩
theorem row_is_fraction_not_0 : RowOk B Z Px r_is_fraction_not_0 := ⟨⟨rfl, rfl, rfl, by decide +kernel, rfl, by decide +kernel, by decide +kernel⟩, fun P tp C Dd => ok_is_fraction_not_0 P tp C Dd⟩
theorem row_rises : RowOk B Z Px r_rises := ⟨⟨rfl, rfl, rfl, by decide +kernel, rfl, by decide +kernel, by decide +kernel⟩, fun P tp C Dd => ok_rises P tp C Dd⟩
theorem row_is_gain : RowOk B Z Px r_is_gain := ⟨⟨rfl, rfl, rfl, by decide +kernel, rfl, by decide +kernel, by decide +kernel⟩, fun P tp C Dd => ok_is_gain P tp C Dd⟩
theorem row_are_held : RowOk B Z Px r_are_held := ⟨⟨rfl, rfl, rfl, by decide +kernel, rfl, by decide +kernel, by decide +kernel⟩, fun P tp C Dd => ok_are_held P tp C Dd⟩
theorem row_is_held : RowOk B Z Px r_is_held := ⟨⟨rfl, rfl, rfl, by decide +kernel, rfl, by decide +kernel, by decide +kernel⟩, fun P tp C Dd => ok_is_held P tp C Dd⟩
theorem row_are_letters : RowOk B Z Px r_are_letters := ⟨⟨rfl, rfl, rfl, by decide +kernel, rfl, by decide +kernel, by decide +kernel⟩, fun P tp C Dd => ok_are_letters P tp C Dd⟩
theorem row_is_stream : RowOk B Z Px r_is_stream := ⟨⟨rfl, rfl, rfl, by decide +kernel, rfl, by decide +kernel, by decide +kernel⟩, fun P tp C Dd => ok_is_stream P tp C Dd⟩
theorem row_table_of : RowOk B Z Px r_table_of := ⟨⟨rfl, rfl, rfl, by decide +kernel, rfl, by decide +kernel, by decide +kernel⟩, fun P tp C Dd => ok_table_of P tp C Dd⟩
theorem row_words_of : RowOk B Z Px r_words_of := ⟨⟨rfl, rfl, rfl, by decide +kernel, rfl, by decide +kernel, by decide +kernel⟩, fun P tp C Dd => ok_words_of P tp C Dd⟩
theorem row_round_at : RowOk B Z Px r_round_at := ⟨⟨rfl, rfl, rfl, by decide +kernel, rfl, by decide +kernel, by decide +kernel⟩, fun P tp C Dd => ok_round_at P tp C Dd⟩
theorem row_ring_gain : RowOk B Z Px r_ring_gain := ⟨⟨rfl, rfl, rfl, by decide +kernel, rfl, by decide +kernel, by decide +kernel⟩, fun P tp C Dd => ok_ring_gain P tp C Dd⟩
theorem row_step_gain : RowOk B Z Px r_step_gain := ⟨⟨rfl, rfl, rfl, by decide +kernel, rfl, by decide +kernel, by decide +kernel⟩, fun P tp C Dd => ok_step_gain P tp C Dd⟩
theorem row_word_chance : RowOk B Z Px r_word_chance := ⟨⟨rfl, rfl, rfl, by decide +kernel, rfl, by decide +kernel, by decide +kernel⟩, fun P tp C Dd => ok_word_chance P tp C Dd⟩
theorem row_begun : RowOk B Z Px r_begun := ⟨⟨rfl, rfl, rfl, by decide +kernel, rfl, by decide +kernel, by decide +kernel⟩, fun P tp C Dd => ok_begun P tp C Dd⟩
theorem row_store : RowOk B Z Px r_store := ⟨⟨rfl, rfl, rfl, by decide +kernel, rfl, by decide +kernel, by decide +kernel⟩, fun P tp C Dd => ok_store P tp C Dd⟩
theorem row_is_store : RowOk B Z Px r_is_store := ⟨⟨rfl, rfl, rfl, by decide +kernel, rfl, by decide +kernel, by decide +kernel⟩, fun P tp C Dd => ok_is_store P tp C Dd⟩
theorem row_steps_by : RowOk B Z Px r_steps_by := ⟨⟨rfl, rfl, rfl, by decide +kernel, rfl, by decide +kernel, by decide +kernel⟩, fun P tp C Dd => ok_steps_by P tp C Dd⟩
theorem row_gaining_ring : RowOk B Z Px r_gaining_ring := ⟨⟨rfl, rfl, rfl, by decide +kernel, rfl, by decide +kernel, by decide +kernel⟩, fun P tp C Dd => ok_gaining_ring P tp C Dd⟩
theorem row_most_ring : RowOk B Z Px r_most_ring := ⟨⟨rfl, rfl, rfl, by decide +kernel, rfl, by decide +kernel, by decide +kernel⟩, fun P tp C Dd => ok_most_ring P tp C Dd⟩
theorem row_most_walks : RowOk B Z Px r_most_walks := ⟨⟨rfl, rfl, rfl, by decide +kernel, rfl, by decide +kernel, by decide +kernel⟩, fun P tp C Dd => ok_most_walks P tp C Dd⟩
theorem row_least_rise : RowOk B Z Px r_least_rise := ⟨⟨rfl, rfl, rfl, by decide +kernel, rfl, by decide +kernel, by decide +kernel⟩, fun P tp C Dd => ok_least_rise P tp C Dd⟩
theorem row_most_step : RowOk B Z Px r_most_step := ⟨⟨rfl, rfl, rfl, by decide +kernel, rfl, by decide +kernel, by decide +kernel⟩, fun P tp C Dd => ok_most_step P tp C Dd⟩
theorem row_most_store : RowOk B Z Px r_most_store := ⟨⟨rfl, rfl, rfl, by decide +kernel, rfl, by decide +kernel, by decide +kernel⟩, fun P tp C Dd => ok_most_store P tp C Dd⟩
theorem row_is_most_store : RowOk B Z Px r_is_most_store := ⟨⟨rfl, rfl, rfl, by decide +kernel, rfl, by decide +kernel, by decide +kernel⟩, fun P tp C Dd => ok_is_most_store P tp C Dd⟩
theorem row_form_store : RowOk B Z Px r_form_store := ⟨⟨rfl, rfl, rfl, by decide +kernel, rfl, by decide +kernel, by decide +kernel⟩, fun P tp C Dd => ok_form_store P tp C Dd⟩
theorem row_cores_of : RowOk B Z Px r_cores_of := ⟨⟨rfl, rfl, rfl, by decide +kernel, rfl, by decide +kernel, by decide +kernel⟩, fun P tp C Dd => ok_cores_of P tp C Dd⟩
theorem row_any_core : RowOk B Z Px r_any_core := ⟨⟨rfl, rfl, rfl, by decide +kernel, rfl, by decide +kernel, by decide +kernel⟩, fun P tp C Dd => ok_any_core P tp C Dd⟩
theorem row_ring_sum : RowOk B Z Px r_ring_sum := ⟨⟨rfl, rfl, rfl, by decide +kernel, rfl, by decide +kernel, by decide +kernel⟩, fun P tp C Dd => ok_ring_sum P tp C Dd⟩
theorem row_form_ring : RowOk B Z Px r_form_ring := ⟨⟨rfl, rfl, rfl, by decide +kernel, rfl, by decide +kernel, by decide +kernel⟩, fun P tp C Dd => ok_form_ring P tp C Dd⟩
theorem row__law_box : RowOk B Z Px r__law_box := ⟨⟨rfl, rfl, rfl, by decide +kernel, rfl, by decide +kernel, by decide +kernel⟩, fun P tp C Dd => ok__law_box P tp C Dd⟩
theorem row__law_take : RowOk B Z Px r__law_take := ⟨⟨rfl, rfl, rfl, by decide +kernel, rfl, by decide +kernel, by decide +kernel⟩, fun P tp C Dd => ok__law_take P tp C Dd⟩
theorem row__law_cells : RowOk B Z Px r__law_cells := ⟨⟨rfl, rfl, rfl, by decide +kernel, rfl, by decide +kernel, by decide +kernel⟩, fun P tp C Dd => ok__law_cells P tp C Dd⟩
theorem row__law_same : RowOk B Z Px r__law_same := ⟨⟨rfl, rfl, rfl, by decide +kernel, rfl, by decide +kernel, by decide +kernel⟩, fun P tp C Dd => ok__law_same P tp C Dd⟩
theorem row__law_lists : RowOk B Z Px r__law_lists := ⟨⟨rfl, rfl, rfl, by decide +kernel, rfl, by decide +kernel, by decide +kernel⟩, fun P tp C Dd => ok__law_lists P tp C Dd⟩
theorem row__law_gcd : RowOk B Z Px r__law_gcd := ⟨⟨rfl, rfl, rfl, by decide +kernel, rfl, by decide +kernel, by decide +kernel⟩, fun P tp C Dd => ok__law_gcd P tp C Dd⟩
theorem row__law_fr : RowOk B Z Px r__law_fr := ⟨⟨rfl, rfl, rfl, by decide +kernel, rfl, by decide +kernel, by decide +kernel⟩, fun P tp C Dd => ok__law_fr P tp C Dd⟩
theorem row__law_add : RowOk B Z Px r__law_add := ⟨⟨rfl, rfl, rfl, by decide +kernel, rfl, by decide +kernel, by decide +kernel⟩, fun P tp C Dd => ok__law_add P tp C Dd⟩
theorem row__law_mul : RowOk B Z Px r__law_mul := ⟨⟨rfl, rfl, rfl, by decide +kernel, rfl, by decide +kernel, by decide +kernel⟩, fun P tp C Dd => ok__law_mul P tp C Dd⟩
theorem row__law_sum : RowOk B Z Px r__law_sum := ⟨⟨rfl, rfl, rfl, by decide +kernel, rfl, by decide +kernel, by decide +kernel⟩, fun P tp C Dd => ok__law_sum P tp C Dd⟩
theorem row__law_turned : RowOk B Z Px r__law_turned := ⟨⟨rfl, rfl, rfl, by decide +kernel, rfl, by decide +kernel, by decide +kernel⟩, fun P tp C Dd => ok__law_turned P tp C Dd⟩
theorem row__law_gained : RowOk B Z Px r__law_gained := ⟨⟨rfl, rfl, rfl, by decide +kernel, rfl, by decide +kernel, by decide +kernel⟩, fun P tp C Dd => ok__law_gained P tp C Dd⟩
theorem row__law_is_fr : RowOk B Z Px r__law_is_fr := ⟨⟨rfl, rfl, rfl, by decide +kernel, rfl, by decide +kernel, by decide +kernel⟩, fun P tp C Dd => ok__law_is_fr P tp C Dd⟩
theorem row__law_is_ring : RowOk B Z Px r__law_is_ring := ⟨⟨rfl, rfl, rfl, by decide +kernel, rfl, by decide +kernel, by decide +kernel⟩, fun P tp C Dd => ok__law_is_ring P tp C Dd⟩
theorem row__law_value : RowOk B Z Px r__law_value := ⟨⟨rfl, rfl, rfl, by decide +kernel, rfl, by decide +kernel, by decide +kernel⟩, fun P tp C Dd => ok__law_value P tp C Dd⟩
theorem row__law_round : RowOk B Z Px r__law_round := ⟨⟨rfl, rfl, rfl, by decide +kernel, rfl, by decide +kernel, by decide +kernel⟩, fun P tp C Dd => ok__law_round P tp C Dd⟩
theorem row__law_are_rows : RowOk B Z Px r__law_are_rows := ⟨⟨rfl, rfl, rfl, by decide +kernel, rfl, by decide +kernel, by decide +kernel⟩, fun P tp C Dd => ok__law_are_rows P tp C Dd⟩
theorem row__law_names : RowOk B Z Px r__law_names := ⟨⟨rfl, rfl, rfl, by decide +kernel, rfl, by decide +kernel, by decide +kernel⟩, fun P tp C Dd => ok__law_names P tp C Dd⟩
theorem row__law_heard : RowOk B Z Px r__law_heard := ⟨⟨rfl, rfl, rfl, by decide +kernel, rfl, by decide +kernel, by decide +kernel⟩, fun P tp C Dd => ok__law_heard P tp C Dd⟩
theorem row__law_things_right : RowOk B Z Px r__law_things_right := ⟨⟨rfl, rfl, rfl, by decide +kernel, rfl, by decide +kernel, by decide +kernel⟩, fun P tp C Dd => ok__law_things_right P tp C Dd⟩
theorem row__law_rings_right : RowOk B Z Px r__law_rings_right := ⟨⟨rfl, rfl, rfl, by decide +kernel, rfl, by decide +kernel, by decide +kernel⟩, fun P tp C Dd => ok__law_rings_right P tp C Dd⟩
theorem row__law_stores_right : RowOk B Z Px r__law_stores_right := ⟨⟨rfl, rfl, rfl, by decide +kernel, rfl, by decide +kernel, by decide +kernel⟩, fun P tp C Dd => ok__law_stores_right P tp C Dd⟩
theorem row__law_most_right : RowOk B Z Px r__law_most_right := ⟨⟨rfl, rfl, rfl, by decide +kernel, rfl, by decide +kernel, by decide +kernel⟩, fun P tp C Dd => ok__law_most_right P tp C Dd⟩
theorem row__law_forms_right : RowOk B Z Px r__law_forms_right := ⟨⟨rfl, rfl, rfl, by decide +kernel, rfl, by decide +kernel, by decide +kernel⟩, fun P tp C Dd => ok__law_forms_right P tp C Dd⟩
theorem row_law : RowOk B Z Px r_law := ⟨⟨rfl, rfl, rfl, by decide +kernel, rfl, by decide +kernel, by decide +kernel⟩, fun P tp C Dd => ok_law P tp C Dd⟩
theorem rows : ∀ r ∈ B, RowOk B Z Px r := AllB.get (B := B) ⟨row_lowest, row_plus, row_less, row_times, row_over, row_is_below, row_total, row_whole_power, row_power, row_common_bottom, row_whole, row_sums_by_key, row_primes, row_free_rows, row_monomial, row_value_at, row_scaled, row_placed, row_as_tuples, row_is_number, row_is_tuple_of, row_is_fraction, row_is_fraction_not_0, row_rises, row_is_gain, row_are_held, row_is_held, row_are_letters, row_is_stream, row_table_of, row_words_of, row_round_at, row_ring_gain, row_step_gain, row_word_chance, row_begun, row_store, row_is_store, row_steps_by, row_gaining_ring, row_most_ring, row_most_walks, row_least_rise, row_most_step, row_most_store, row_is_most_store, row_form_store, row_cores_of, row_any_core, row_ring_sum, row_form_ring, row__law_box, row__law_take, row__law_cells, row__law_same, row__law_lists, row__law_gcd, row__law_fr, row__law_add, row__law_mul, row__law_sum, row__law_turned, row__law_gained, row__law_is_fr, row__law_is_ring, row__law_value, row__law_round, row__law_are_rows, row__law_names, row__law_heard, row__law_things_right, row__law_rings_right, row__law_stores_right, row__law_most_right, row__law_forms_right, row_law, trivial⟩
def plan : Plan := Plan.ask 2 (fun _ => .stop)
def mt__law_things_right : Memo := []
theorem et__law_things_right : okT (ms__law_things_right (run B 39) (List.replicate r__law_things_right.N.length none) ⟨0, []⟩) = true := okT_known (t := mt__law_things_right) .nil (by kernel_rfl)
theorem er__law_things_right (s : S) : run B 40 70 [] s = .ok (.bl true) s := run_true (r := r__law_things_right) rfl rfl rfl et__law_things_right
def mt__law_most_right : Memo := []
theorem et__law_most_right : okT (ms__law_most_right (run B 39) (List.replicate r__law_most_right.N.length none) ⟨0, []⟩) = true := okT_known (t := mt__law_most_right) .nil (by kernel_rfl)
theorem er__law_most_right (s : S) : run B 40 73 [] s = .ok (.bl true) s := run_true (r := r__law_most_right) rfl rfl rfl et__law_most_right
def mt__law_forms_right : Memo := []
theorem et__law_forms_right : okT (ms__law_forms_right (run B 39) (List.replicate r__law_forms_right.N.length none) ⟨0, []⟩) = true := okT_known (t := mt__law_forms_right) .nil (by kernel_rfl)
theorem er__law_forms_right (s : S) : run B 40 74 [] s = .ok (.bl true) s := run_true (r := r__law_forms_right) rfl rfl rfl et__law_forms_right
def mt__law_rings_right : Memo := []
theorem et__law_rings_right : okT (ms__law_rings_right (run B 39) (List.replicate r__law_rings_right.N.length none) ⟨0, []⟩) = true := okT_known (t := mt__law_rings_right) .nil (by kernel_rfl)
theorem er__law_rings_right (s : S) : run B 40 71 [] s = .ok (.bl true) s := run_true (r := r__law_rings_right) rfl rfl rfl et__law_rings_right
def mt__law_stores_right : Memo := []
theorem et__law_stores_right : okT (ms__law_stores_right (run B 39) (List.replicate r__law_stores_right.N.length none) ⟨0, []⟩) = true := okT_known (t := mt__law_stores_right) .nil (by kernel_rfl)
theorem er__law_stores_right (s : S) : run B 40 72 [] s = .ok (.bl true) s := run_true (r := r__law_stores_right) rfl rfl rfl et__law_stores_right
def mt_law : Memo := [(70, [], (.bl true)), (73, [], (.bl true)), (74, [], (.bl true)), (71, [], (.bl true)), (72, [], (.bl true))]
def evf (tr : List (Nat × Nat)) : Bool := isTrueR (finF (r_law.m (memoF mt_law (run B 40)) (begE 1315490 tr 1) ⟨0, []⟩))
theorem ev_p : Plan.all plan evf [] = true := by kernel_rfl
theorem ev : plan.all (fun tr => isTrueR (finF (r_law.m (run B 40) (begE 1315490 tr 1) ⟨0, []⟩))) [] = true := plan_known (m := r_law.m) (t := mt_law) (.cons er__law_things_right (.cons er__law_most_right (.cons er__law_forms_right (.cons er__law_rings_right (.cons er__law_stores_right .nil))))) ev_p
theorem px_of {X : Cx} {K : PySem.W.Frag} {h : Heap} {mg : Str → Option Value} {C0 C1  : Addr} (KX : K.In h) (G : h.Ns mainGlobals mg) (hK : X.K = K) (hm : X.mg = mg)
    (B0 : Err0At K "CanNot" "ValueError" "ValueError.__new__" "ValueError.__init__" [.type "ValueError", .type "Exception", .type "BaseException", .type "object"] C0)
    (e0 : ExcC K C0)
    (m0_0 : PySem.W.exmOne K (.ref C0) (.ref C0) = some true)
    (m0_1 : PySem.W.exmOne K (.ref C0) (.ref C1) = some false)
    (t0ValueError : PySem.W.kitOne K (.ref C0) (.type "ValueError") = some true)
    (B1 : Err0At K "Unfit" "ValueError" "ValueError.__new__" "ValueError.__init__" [.type "ValueError", .type "Exception", .type "BaseException", .type "object"] C1)
    (e1 : ExcC K C1)
    (m1_0 : PySem.W.exmOne K (.ref C1) (.ref C0) = some false)
    (m1_1 : PySem.W.exmOne K (.ref C1) (.ref C1) = some true)
    (t1ValueError : PySem.W.kitOne K (.ref C1) (.type "ValueError") = some true)
    : Px X :=
  ⟨pxM_of KX G hK hm [("CanNot", C0), ("Unfit", C1)] rfl ⟨B0.ns, B1.ns, trivial⟩ ⟨e0, e1, trivial⟩ ⟨⟨m0_0, m0_1, trivial⟩, ⟨m1_0, m1_1, trivial⟩, trivial⟩ ⟨⟨C0, B0.ns, t0ValueError⟩, ⟨C1, B1.ns, t1ValueError⟩, trivial⟩, err0_of KX G hK hm B0, err0_of KX G hK hm B1⟩
end EVX
open PySem PySem.W PyProof.Rows
set_option maxRecDepth 100000 in
set_option maxHeartbeats 0 in
theorem PySem.Challenge.cw_everysource_k90_steady_by_hand_and_what_holds : PySem.Challenge.rw_everysource_k90_steady_by_hand_and_what.Holds := by
  w_on; o_law; k_head; (case hw => w_witness2)
  k_fill
  refine EV.end_open (l := PySem.Challenge.rw_everysource_k90_steady_by_hand_and_what) (n := 40) (r := EVX.r_law) (B := EVX.B) (Z := EVX.Z) (PX := EVX.Px) (κ := 1315490) (N := 1) (pl := EVX.plan) rfl (by decide) rfl (fun w h Y => PySem.W.kIn_of Y) rfl (List.mem_of_getElem? (i := 75) rfl) rfl rfl (by decide) EVX.rows EVX.ev (fun F s u => BindsTo.of_eq (EVX.law_binds F u)) ?xfun ?xnam ?xtab ?xerr
  case xfun =>
    intro w
    refine ⟨?xf0, ?xf1, ?xf2, ?xf3, ?xf4, ?xf5, ?xf6, ?xf7, ?xf8, ?xf9, ?xf10, ?xf11, ?xf12, ?xf13, ?xf14, ?xf15, ?xf16, ?xf17, ?xf18, ?xf19, ?xf20, ?xf21, ?xf22, ?xf23, ?xf24, ?xf25, ?xf26, ?xf27, ?xf28, ?xf29, ?xf30, ?xf31, ?xf32, ?xf33, ?xf34, ?xf35, ?xf36, ?xf37, ?xf38, ?xf39, ?xf40, ?xf41, ?xf42, ?xf43, ?xf44, ?xf45, ?xf46, ?xf47, ?xf48, ?xf49, ?xf50, ?xf51, ?xf52, ?xf53, ?xf54, ?xf55, ?xf56, ?xf57, ?xf58, ?xf59, ?xf60, ?xf61, ?xf62, ?xf63, ?xf64, ?xf65, ?xf66, ?xf67, ?xf68, ?xf69, ?xf70, ?xf71, ?xf72, ?xf73, ?xf74, ?xf75, trivial⟩
    (case xf0 => (show EV.FunAt _ "lowest" EVX.s_lowest; (refine' EV.FunAt.of ?axf0 ?lxf0 ?cxf0 ?kxf0; (case axf0 => k_is); (case lxf0 => k_is); (case cxf0 => k_is); (case kxf0 => k_is))))
    (case xf1 => (show EV.FunAt _ "plus" EVX.s_plus; (refine' EV.FunAt.of ?axf1 ?lxf1 ?cxf1 ?kxf1; (case axf1 => k_is); (case lxf1 => k_is); (case cxf1 => k_is); (case kxf1 => k_is))))
    (case xf2 => (show EV.FunAt _ "less" EVX.s_less; (refine' EV.FunAt.of ?axf2 ?lxf2 ?cxf2 ?kxf2; (case axf2 => k_is); (case lxf2 => k_is); (case cxf2 => k_is); (case kxf2 => k_is))))
    (case xf3 => (show EV.FunAt _ "times" EVX.s_times; (refine' EV.FunAt.of ?axf3 ?lxf3 ?cxf3 ?kxf3; (case axf3 => k_is); (case lxf3 => k_is); (case cxf3 => k_is); (case kxf3 => k_is))))
    (case xf4 => (show EV.FunAt _ "over" EVX.s_over; (refine' EV.FunAt.of ?axf4 ?lxf4 ?cxf4 ?kxf4; (case axf4 => k_is); (case lxf4 => k_is); (case cxf4 => k_is); (case kxf4 => k_is))))
    (case xf5 => (show EV.FunAt _ "is_below" EVX.s_is_below; (refine' EV.FunAt.of ?axf5 ?lxf5 ?cxf5 ?kxf5; (case axf5 => k_is); (case lxf5 => k_is); (case cxf5 => k_is); (case kxf5 => k_is))))
    (case xf6 => (show EV.FunAt _ "total" EVX.s_total; (refine' EV.FunAt.of ?axf6 ?lxf6 ?cxf6 ?kxf6; (case axf6 => k_is); (case lxf6 => k_is); (case cxf6 => k_is); (case kxf6 => k_is))))
    (case xf7 => (show EV.FunAt _ "whole_power" EVX.s_whole_power; (refine' EV.FunAt.of ?axf7 ?lxf7 ?cxf7 ?kxf7; (case axf7 => k_is); (case lxf7 => k_is); (case cxf7 => k_is); (case kxf7 => k_is))))
    (case xf8 => (show EV.FunAt _ "power" EVX.s_power; (refine' EV.FunAt.of ?axf8 ?lxf8 ?cxf8 ?kxf8; (case axf8 => k_is); (case lxf8 => k_is); (case cxf8 => k_is); (case kxf8 => k_is))))
    (case xf9 => (show EV.FunAt _ "common_bottom" EVX.s_common_bottom; (refine' EV.FunAt.of ?axf9 ?lxf9 ?cxf9 ?kxf9; (case axf9 => k_is); (case lxf9 => k_is); (case cxf9 => k_is); (case kxf9 => k_is))))
    (case xf10 => (show EV.FunAt _ "whole" EVX.s_whole; (refine' EV.FunAt.of ?axf10 ?lxf10 ?cxf10 ?kxf10; (case axf10 => k_is); (case lxf10 => k_is); (case cxf10 => k_is); (case kxf10 => k_is))))
    (case xf11 => (show EV.FunAt _ "sums_by_key" EVX.s_sums_by_key; (refine' EV.FunAt.of ?axf11 ?lxf11 ?cxf11 ?kxf11; (case axf11 => k_is); (case lxf11 => k_is); (case cxf11 => k_is); (case kxf11 => k_is))))
    (case xf12 => (show EV.FunAt _ "primes" EVX.s_primes; (refine' EV.FunAt.of ?axf12 ?lxf12 ?cxf12 ?kxf12; (case axf12 => k_is); (case lxf12 => k_is); (case cxf12 => k_is); (case kxf12 => k_is))))
    (case xf13 => (show EV.FunAt _ "free_rows" EVX.s_free_rows; (refine' EV.FunAt.of ?axf13 ?lxf13 ?cxf13 ?kxf13; (case axf13 => k_is); (case lxf13 => k_is); (case cxf13 => k_is); (case kxf13 => k_is))))
    (case xf14 => (show EV.FunAt _ "monomial" EVX.s_monomial; (refine' EV.FunAt.of ?axf14 ?lxf14 ?cxf14 ?kxf14; (case axf14 => k_is); (case lxf14 => k_is); (case cxf14 => k_is); (case kxf14 => k_is))))
    (case xf15 => (show EV.FunAt _ "value_at" EVX.s_value_at; (refine' EV.FunAt.of ?axf15 ?lxf15 ?cxf15 ?kxf15; (case axf15 => k_is); (case lxf15 => k_is); (case cxf15 => k_is); (case kxf15 => k_is))))
    (case xf16 => (show EV.FunAt _ "scaled" EVX.s_scaled; (refine' EV.FunAt.of ?axf16 ?lxf16 ?cxf16 ?kxf16; (case axf16 => k_is); (case lxf16 => k_is); (case cxf16 => k_is); (case kxf16 => k_is))))
    (case xf17 => (show EV.FunAt _ "placed" EVX.s_placed; (refine' EV.FunAt.of ?axf17 ?lxf17 ?cxf17 ?kxf17; (case axf17 => k_is); (case lxf17 => k_is); (case cxf17 => k_is); (case kxf17 => k_is))))
    (case xf18 => (show EV.FunAt _ "as_tuples" EVX.s_as_tuples; (refine' EV.FunAt.of ?axf18 ?lxf18 ?cxf18 ?kxf18; (case axf18 => k_is); (case lxf18 => k_is); (case cxf18 => k_is); (case kxf18 => k_is))))
    (case xf19 => (show EV.FunAt _ "is_number" EVX.s_is_number; (refine' EV.FunAt.of ?axf19 ?lxf19 ?cxf19 ?kxf19; (case axf19 => k_is); (case lxf19 => k_is); (case cxf19 => k_is); (case kxf19 => k_is))))
    (case xf20 => (show EV.FunAt _ "is_tuple_of" EVX.s_is_tuple_of; (refine' EV.FunAt.of ?axf20 ?lxf20 ?cxf20 ?kxf20; (case axf20 => k_is); (case lxf20 => k_is); (case cxf20 => k_is); (case kxf20 => k_is))))
    (case xf21 => (show EV.FunAt _ "is_fraction" EVX.s_is_fraction; (refine' EV.FunAt.of ?axf21 ?lxf21 ?cxf21 ?kxf21; (case axf21 => k_is); (case lxf21 => k_is); (case cxf21 => k_is); (case kxf21 => k_is))))
    (case xf22 => (show EV.FunAt _ "is_fraction_not_0" EVX.s_is_fraction_not_0; (refine' EV.FunAt.of ?axf22 ?lxf22 ?cxf22 ?kxf22; (case axf22 => k_is); (case lxf22 => k_is); (case cxf22 => k_is); (case kxf22 => k_is))))
    (case xf23 => (show EV.FunAt _ "rises" EVX.s_rises; (refine' EV.FunAt.of ?axf23 ?lxf23 ?cxf23 ?kxf23; (case axf23 => k_is); (case lxf23 => k_is); (case cxf23 => k_is); (case kxf23 => k_is))))
    (case xf24 => (show EV.FunAt _ "is_gain" EVX.s_is_gain; (refine' EV.FunAt.of ?axf24 ?lxf24 ?cxf24 ?kxf24; (case axf24 => k_is); (case lxf24 => k_is); (case cxf24 => k_is); (case kxf24 => k_is))))
    (case xf25 => (show EV.FunAt _ "are_held" EVX.s_are_held; (refine' EV.FunAt.of ?axf25 ?lxf25 ?cxf25 ?kxf25; (case axf25 => k_is); (case lxf25 => k_is); (case cxf25 => k_is); (case kxf25 => k_is))))
    (case xf26 => (show EV.FunAt _ "is_held" EVX.s_is_held; (refine' EV.FunAt.of ?axf26 ?lxf26 ?cxf26 ?kxf26; (case axf26 => k_is); (case lxf26 => k_is); (case cxf26 => k_is); (case kxf26 => k_is))))
    (case xf27 => (show EV.FunAt _ "are_letters" EVX.s_are_letters; (refine' EV.FunAt.of ?axf27 ?lxf27 ?cxf27 ?kxf27; (case axf27 => k_is); (case lxf27 => k_is); (case cxf27 => k_is); (case kxf27 => k_is))))
    (case xf28 => (show EV.FunAt _ "is_stream" EVX.s_is_stream; (refine' EV.FunAt.of ?axf28 ?lxf28 ?cxf28 ?kxf28; (case axf28 => k_is); (case lxf28 => k_is); (case cxf28 => k_is); (case kxf28 => k_is))))
    (case xf29 => (show EV.FunAt _ "table_of" EVX.s_table_of; (refine' EV.FunAt.of ?axf29 ?lxf29 ?cxf29 ?kxf29; (case axf29 => k_is); (case lxf29 => k_is); (case cxf29 => k_is); (case kxf29 => k_is))))
    (case xf30 => (show EV.FunAt _ "words_of" EVX.s_words_of; (refine' EV.FunAt.of ?axf30 ?lxf30 ?cxf30 ?kxf30; (case axf30 => k_is); (case lxf30 => k_is); (case cxf30 => k_is); (case kxf30 => k_is))))
    (case xf31 => (show EV.FunAt _ "round_at" EVX.s_round_at; (refine' EV.FunAt.of ?axf31 ?lxf31 ?cxf31 ?kxf31; (case axf31 => k_is); (case lxf31 => k_is); (case cxf31 => k_is); (case kxf31 => k_is))))
    (case xf32 => (show EV.FunAt _ "ring_gain" EVX.s_ring_gain; (refine' EV.FunAt.of ?axf32 ?lxf32 ?cxf32 ?kxf32; (case axf32 => k_is); (case lxf32 => k_is); (case cxf32 => k_is); (case kxf32 => k_is))))
    (case xf33 => (show EV.FunAt _ "step_gain" EVX.s_step_gain; (refine' EV.FunAt.of ?axf33 ?lxf33 ?cxf33 ?kxf33; (case axf33 => k_is); (case lxf33 => k_is); (case cxf33 => k_is); (case kxf33 => k_is))))
    (case xf34 => (show EV.FunAt _ "word_chance" EVX.s_word_chance; (refine' EV.FunAt.of ?axf34 ?lxf34 ?cxf34 ?kxf34; (case axf34 => k_is); (case lxf34 => k_is); (case cxf34 => k_is); (case kxf34 => k_is))))
    (case xf35 => (show EV.FunAt _ "begun" EVX.s_begun; (refine' EV.FunAt.of ?axf35 ?lxf35 ?cxf35 ?kxf35; (case axf35 => k_is); (case lxf35 => k_is); (case cxf35 => k_is); (case kxf35 => k_is))))
    (case xf36 => (show EV.FunAt _ "store" EVX.s_store; (refine' EV.FunAt.of ?axf36 ?lxf36 ?cxf36 ?kxf36; (case axf36 => k_is); (case lxf36 => k_is); (case cxf36 => k_is); (case kxf36 => k_is))))
    (case xf37 => (show EV.FunAt _ "is_store" EVX.s_is_store; (refine' EV.FunAt.of ?axf37 ?lxf37 ?cxf37 ?kxf37; (case axf37 => k_is); (case lxf37 => k_is); (case cxf37 => k_is); (case kxf37 => k_is))))
    (case xf38 => (show EV.FunAt _ "steps_by" EVX.s_steps_by; (refine' EV.FunAt.of ?axf38 ?lxf38 ?cxf38 ?kxf38; (case axf38 => k_is); (case lxf38 => k_is); (case cxf38 => k_is); (case kxf38 => k_is))))
    (case xf39 => (show EV.FunAt _ "gaining_ring" EVX.s_gaining_ring; (refine' EV.FunAt.of ?axf39 ?lxf39 ?cxf39 ?kxf39; (case axf39 => k_is); (case lxf39 => k_is); (case cxf39 => k_is); (case kxf39 => k_is))))
    (case xf40 => (show EV.FunAt _ "most_ring" EVX.s_most_ring; (refine' EV.FunAt.of ?axf40 ?lxf40 ?cxf40 ?kxf40; (case axf40 => k_is); (case lxf40 => k_is); (case cxf40 => k_is); (case kxf40 => k_is))))
    (case xf41 => (show EV.FunAt _ "most_walks" EVX.s_most_walks; (refine' EV.FunAt.of ?axf41 ?lxf41 ?cxf41 ?kxf41; (case axf41 => k_is); (case lxf41 => k_is); (case cxf41 => k_is); (case kxf41 => k_is))))
    (case xf42 => (show EV.FunAt _ "least_rise" EVX.s_least_rise; (refine' EV.FunAt.of ?axf42 ?lxf42 ?cxf42 ?kxf42; (case axf42 => k_is); (case lxf42 => k_is); (case cxf42 => k_is); (case kxf42 => k_is))))
    (case xf43 => (show EV.FunAt _ "most_step" EVX.s_most_step; (refine' EV.FunAt.of ?axf43 ?lxf43 ?cxf43 ?kxf43; (case axf43 => k_is); (case lxf43 => k_is); (case cxf43 => k_is); (case kxf43 => k_is))))
    (case xf44 => (show EV.FunAt _ "most_store" EVX.s_most_store; (refine' EV.FunAt.of ?axf44 ?lxf44 ?cxf44 ?kxf44; (case axf44 => k_is); (case lxf44 => k_is); (case cxf44 => k_is); (case kxf44 => k_is))))
    (case xf45 => (show EV.FunAt _ "is_most_store" EVX.s_is_most_store; (refine' EV.FunAt.of ?axf45 ?lxf45 ?cxf45 ?kxf45; (case axf45 => k_is); (case lxf45 => k_is); (case cxf45 => k_is); (case kxf45 => k_is))))
    (case xf46 => (show EV.FunAt _ "form_store" EVX.s_form_store; (refine' EV.FunAt.of ?axf46 ?lxf46 ?cxf46 ?kxf46; (case axf46 => k_is); (case lxf46 => k_is); (case cxf46 => k_is); (case kxf46 => k_is))))
    (case xf47 => (show EV.FunAt _ "cores_of" EVX.s_cores_of; (refine' EV.FunAt.of ?axf47 ?lxf47 ?cxf47 ?kxf47; (case axf47 => k_is); (case lxf47 => k_is); (case cxf47 => k_is); (case kxf47 => k_is))))
    (case xf48 => (show EV.FunAt _ "any_core" EVX.s_any_core; (refine' EV.FunAt.of ?axf48 ?lxf48 ?cxf48 ?kxf48; (case axf48 => k_is); (case lxf48 => k_is); (case cxf48 => k_is); (case kxf48 => k_is))))
    (case xf49 => (show EV.FunAt _ "ring_sum" EVX.s_ring_sum; (refine' EV.FunAt.of ?axf49 ?lxf49 ?cxf49 ?kxf49; (case axf49 => k_is); (case lxf49 => k_is); (case cxf49 => k_is); (case kxf49 => k_is))))
    (case xf50 => (show EV.FunAt _ "form_ring" EVX.s_form_ring; (refine' EV.FunAt.of ?axf50 ?lxf50 ?cxf50 ?kxf50; (case axf50 => k_is); (case lxf50 => k_is); (case cxf50 => k_is); (case kxf50 => k_is))))
    (case xf51 => (show EV.FunAt _ "_law_box" EVX.s__law_box; (refine' EV.FunAt.of ?axf51 ?lxf51 ?cxf51 ?kxf51; (case axf51 => k_is); (case lxf51 => k_is); (case cxf51 => k_is); (case kxf51 => k_is))))
    (case xf52 => (show EV.FunAt _ "_law_take" EVX.s__law_take; (refine' EV.FunAt.of ?axf52 ?lxf52 ?cxf52 ?kxf52; (case axf52 => k_is); (case lxf52 => k_is); (case cxf52 => k_is); (case kxf52 => k_is))))
    (case xf53 => (show EV.FunAt _ "_law_cells" EVX.s__law_cells; (refine' EV.FunAt.of ?axf53 ?lxf53 ?cxf53 ?kxf53; (case axf53 => k_is); (case lxf53 => k_is); (case cxf53 => k_is); (case kxf53 => k_is))))
    (case xf54 => (show EV.FunAt _ "_law_same" EVX.s__law_same; (refine' EV.FunAt.of ?axf54 ?lxf54 ?cxf54 ?kxf54; (case axf54 => k_is); (case lxf54 => k_is); (case cxf54 => k_is); (case kxf54 => k_is))))
    (case xf55 => (show EV.FunAt _ "_law_lists" EVX.s__law_lists; (refine' EV.FunAt.of ?axf55 ?lxf55 ?cxf55 ?kxf55; (case axf55 => k_is); (case lxf55 => k_is); (case cxf55 => k_is); (case kxf55 => k_is))))
    (case xf56 => (show EV.FunAt _ "_law_gcd" EVX.s__law_gcd; (refine' EV.FunAt.of ?axf56 ?lxf56 ?cxf56 ?kxf56; (case axf56 => k_is); (case lxf56 => k_is); (case cxf56 => k_is); (case kxf56 => k_is))))
    (case xf57 => (show EV.FunAt _ "_law_fr" EVX.s__law_fr; (refine' EV.FunAt.of ?axf57 ?lxf57 ?cxf57 ?kxf57; (case axf57 => k_is); (case lxf57 => k_is); (case cxf57 => k_is); (case kxf57 => k_is))))
    (case xf58 => (show EV.FunAt _ "_law_add" EVX.s__law_add; (refine' EV.FunAt.of ?axf58 ?lxf58 ?cxf58 ?kxf58; (case axf58 => k_is); (case lxf58 => k_is); (case cxf58 => k_is); (case kxf58 => k_is))))
    (case xf59 => (show EV.FunAt _ "_law_mul" EVX.s__law_mul; (refine' EV.FunAt.of ?axf59 ?lxf59 ?cxf59 ?kxf59; (case axf59 => k_is); (case lxf59 => k_is); (case cxf59 => k_is); (case kxf59 => k_is))))
    (case xf60 => (show EV.FunAt _ "_law_sum" EVX.s__law_sum; (refine' EV.FunAt.of ?axf60 ?lxf60 ?cxf60 ?kxf60; (case axf60 => k_is); (case lxf60 => k_is); (case cxf60 => k_is); (case kxf60 => k_is))))
    (case xf61 => (show EV.FunAt _ "_law_turned" EVX.s__law_turned; (refine' EV.FunAt.of ?axf61 ?lxf61 ?cxf61 ?kxf61; (case axf61 => k_is); (case lxf61 => k_is); (case cxf61 => k_is); (case kxf61 => k_is))))
    (case xf62 => (show EV.FunAt _ "_law_gained" EVX.s__law_gained; (refine' EV.FunAt.of ?axf62 ?lxf62 ?cxf62 ?kxf62; (case axf62 => k_is); (case lxf62 => k_is); (case cxf62 => k_is); (case kxf62 => k_is))))
    (case xf63 => (show EV.FunAt _ "_law_is_fr" EVX.s__law_is_fr; (refine' EV.FunAt.of ?axf63 ?lxf63 ?cxf63 ?kxf63; (case axf63 => k_is); (case lxf63 => k_is); (case cxf63 => k_is); (case kxf63 => k_is))))
    (case xf64 => (show EV.FunAt _ "_law_is_ring" EVX.s__law_is_ring; (refine' EV.FunAt.of ?axf64 ?lxf64 ?cxf64 ?kxf64; (case axf64 => k_is); (case lxf64 => k_is); (case cxf64 => k_is); (case kxf64 => k_is))))
    (case xf65 => (show EV.FunAt _ "_law_value" EVX.s__law_value; (refine' EV.FunAt.of ?axf65 ?lxf65 ?cxf65 ?kxf65; (case axf65 => k_is); (case lxf65 => k_is); (case cxf65 => k_is); (case kxf65 => k_is))))
    (case xf66 => (show EV.FunAt _ "_law_round" EVX.s__law_round; (refine' EV.FunAt.of ?axf66 ?lxf66 ?cxf66 ?kxf66; (case axf66 => k_is); (case lxf66 => k_is); (case cxf66 => k_is); (case kxf66 => k_is))))
    (case xf67 => (show EV.FunAt _ "_law_are_rows" EVX.s__law_are_rows; (refine' EV.FunAt.of ?axf67 ?lxf67 ?cxf67 ?kxf67; (case axf67 => k_is); (case lxf67 => k_is); (case cxf67 => k_is); (case kxf67 => k_is))))
    (case xf68 => (show EV.FunAt _ "_law_names" EVX.s__law_names; (refine' EV.FunAt.of ?axf68 ?lxf68 ?cxf68 ?kxf68; (case axf68 => k_is); (case lxf68 => k_is); (case cxf68 => k_is); (case kxf68 => k_is))))
    (case xf69 => (show EV.FunAt _ "_law_heard" EVX.s__law_heard; (refine' EV.FunAt.of ?axf69 ?lxf69 ?cxf69 ?kxf69; (case axf69 => k_is); (case lxf69 => k_is); (case cxf69 => k_is); (case kxf69 => k_is))))
    (case xf70 => (show EV.FunAt _ "_law_things_right" EVX.s__law_things_right; (refine' EV.FunAt.of ?axf70 ?lxf70 ?cxf70 ?kxf70; (case axf70 => k_is); (case lxf70 => k_is); (case cxf70 => k_is); (case kxf70 => k_is))))
    (case xf71 => (show EV.FunAt _ "_law_rings_right" EVX.s__law_rings_right; (refine' EV.FunAt.of ?axf71 ?lxf71 ?cxf71 ?kxf71; (case axf71 => k_is); (case lxf71 => k_is); (case cxf71 => k_is); (case kxf71 => k_is))))
    (case xf72 => (show EV.FunAt _ "_law_stores_right" EVX.s__law_stores_right; (refine' EV.FunAt.of ?axf72 ?lxf72 ?cxf72 ?kxf72; (case axf72 => k_is); (case lxf72 => k_is); (case cxf72 => k_is); (case kxf72 => k_is))))
    (case xf73 => (show EV.FunAt _ "_law_most_right" EVX.s__law_most_right; (refine' EV.FunAt.of ?axf73 ?lxf73 ?cxf73 ?kxf73; (case axf73 => k_is); (case lxf73 => k_is); (case cxf73 => k_is); (case kxf73 => k_is))))
    (case xf74 => (show EV.FunAt _ "_law_forms_right" EVX.s__law_forms_right; (refine' EV.FunAt.of ?axf74 ?lxf74 ?cxf74 ?kxf74; (case axf74 => k_is); (case lxf74 => k_is); (case cxf74 => k_is); (case kxf74 => k_is))))
    (case xf75 => (show EV.FunAt _ "law" EVX.s_law; (refine' EV.FunAt.of ?axf75 ?lxf75 ?cxf75 ?kxf75; (case axf75 => k_is); (case lxf75 => k_is); (case cxf75 => k_is); (case kxf75 => k_is))))
  case xnam =>
    intro w
    refine ⟨?xz0, ?xz1, ?xz2, ?xz3, ?xz4, ?xz5, ?xz6, ?xz7, ?xz8, ?xz9, ?xz10, ?xz11, ?xz12, ?xz13, ?xz14, ?xz15, ?xz16, ?xz17, ?xz18, ?xz19, ?xz20, ?xz21, ?xz22, ?xz23, ?xz24, ?xz25, ?xz26, ?xz27, ?xz28, ?xz29, ?xz30, ?xz31, ?xz32, ?xz33, ?xz34, ?xz35, ?xz36, ?xz37, ?xz38, ?xz39, ?xz40, ?xz41, ?xz42, ?xz43, ?xz44, ?xz45, ?xz46, ?xz47, ?xz48, ?xz49, ?xz50, ?xz51, ?xz52, ?xz53, ?xz54, ?xz55, ?xz56, ?xz57, ?xz58, ?xz59, ?xz60, ?xz61, ?xz62, ?xz63, ?xz64, ?xz65, ?xz66, ?xz67, ?xz68, ?xz69, ?xz70, ?xz71, ?xz72, ?xz73, ?xz74, ?xz75, ?xz76, ?xz77, ?xz78, ?xz79, ?xz80, ?xz81, ?xz82, ?xz83, ?xz84, ?xz85, ?xz86, ?xz87, ?xz88, ?xz89, ?xz90, ?xz91, ?xz92, ?xz93, ?xz94, ?xz95, ?xz96, ?xz97, ?xz98, trivial⟩
    (case xz0 => (intro r e; cases e; rfl))
    (case xz1 => (intro r e; cases e; rfl))
    (case xz2 => (intro r e; cases e; rfl))
    (case xz3 => (intro r e; cases e; rfl))
    (case xz4 => (intro r e; cases e; rfl))
    (case xz5 => (intro r e; cases e; rfl))
    (case xz6 => (intro r e; cases e; rfl))
    (case xz7 => (intro r e; cases e; rfl))
    (case xz8 => (intro r e; cases e; rfl))
    (case xz9 => (intro r e; cases e; rfl))
    (case xz10 => (intro r e; cases e; rfl))
    (case xz11 => (intro r e; cases e; rfl))
    (case xz12 => (intro r e; cases e; rfl))
    (case xz13 => (intro r e; cases e; rfl))
    (case xz14 => (intro r e; cases e; rfl))
    (case xz15 => (intro r e; cases e; rfl))
    (case xz16 => (intro r e; cases e; rfl))
    (case xz17 => (intro r e; cases e; rfl))
    (case xz18 => (intro r e; cases e; rfl))
    (case xz19 => (intro r e; cases e; rfl))
    (case xz20 => (intro r e; cases e; rfl))
    (case xz21 => (intro r e; cases e; rfl))
    (case xz22 => (intro r e; cases e; rfl))
    (case xz23 => (intro r e; cases e; rfl))
    (case xz24 => (intro r e; cases e; rfl))
    (case xz25 => (intro r e; cases e; rfl))
    (case xz26 => (intro r e; cases e; rfl))
    (case xz27 => (intro r e; cases e; rfl))
    (case xz28 => (intro r e; cases e; rfl))
    (case xz29 => (intro r e; cases e; rfl))
    (case xz30 => (intro r e; cases e; rfl))
    (case xz31 => (intro r e; cases e; rfl))
    (case xz32 => (intro r e; cases e; rfl))
    (case xz33 => (intro r e; cases e; rfl))
    (case xz34 => (intro r e; cases e; rfl))
    (case xz35 => (intro r e; cases e; rfl))
    (case xz36 => (intro r e; cases e; rfl))
    (case xz37 => (intro r e; cases e; rfl))
    (case xz38 => (intro r e; cases e; rfl))
    (case xz39 => (intro r e; cases e; rfl))
    (case xz40 => (intro r e; cases e; rfl))
    (case xz41 => (intro r e; cases e; rfl))
    (case xz42 => (intro r e; cases e; rfl))
    (case xz43 => (intro r e; cases e; rfl))
    (case xz44 => (intro r e; cases e; rfl))
    (case xz45 => (intro r e; cases e; rfl))
    (case xz46 => (intro r e; cases e; rfl))
    (case xz47 => (intro r e; cases e; rfl))
    (case xz48 => (intro r e; cases e; rfl))
    (case xz49 => (intro r e; cases e; rfl))
    (case xz50 => (intro r e; cases e; rfl))
    (case xz51 => (intro r e; cases e; rfl))
    (case xz52 => (intro r e; cases e; rfl))
    (case xz53 => (intro r e; cases e; rfl))
    (case xz54 => (intro r e; cases e; rfl))
    (case xz55 => (intro r e; cases e; rfl))
    (case xz56 => (intro r e; cases e; rfl))
    (case xz57 => (intro r e; cases e; rfl))
    (case xz58 => (intro r e; cases e; rfl))
    (case xz59 => (intro r e; cases e; rfl))
    (case xz60 => (intro r e; cases e; rfl))
    (case xz61 => (intro r e; cases e; rfl))
    (case xz62 => (intro r e; cases e; rfl))
    (case xz63 => (intro r e; cases e; rfl))
    (case xz64 => (intro r e; cases e; rfl))
    (case xz65 => (intro r e; cases e; rfl))
    (case xz66 => (intro r e; cases e; rfl))
    (case xz67 => (intro r e; cases e; rfl))
    (case xz68 => (intro r e; cases e; rfl))
    (case xz69 => (intro r e; cases e; rfl))
    (case xz70 => (intro r e; cases e; rfl))
    (case xz71 => (intro r e; cases e; rfl))
    (case xz72 => (intro r e; cases e; rfl))
    (case xz73 => (intro r e; cases e; rfl))
    (case xz74 => (intro r e; cases e; rfl))
    (case xz75 => (intro r e; cases e; rfl))
    (case xz76 => exact EV.cst_tup [0, 1] rfl (by kernel_rfl))
    (case xz77 => exact EV.cst_tup [1, 1] rfl (by kernel_rfl))
    (case xz78 => (show PySem.W.nsIn _ mainGlobals "gcd" = some (some (.builtin "math.gcd")); k_is))
    (case xz79 => (show PySem.W.nsIn _ mainGlobals "lcm" = some (some (.builtin "math.lcm")); k_is))
    (case xz80 => (show PySem.W.nsIn _ mainGlobals "ValueError" = some none; k_is))
    (case xz81 => (show PySem.W.nsIn _ mainGlobals "abs" = some none; k_is))
    (case xz82 => (show PySem.W.nsIn _ mainGlobals "all" = some none; k_is))
    (case xz83 => (show PySem.W.nsIn _ mainGlobals "any" = some none; k_is))
    (case xz84 => (show PySem.W.nsIn _ mainGlobals "bool" = some none; k_is))
    (case xz85 => (show PySem.W.nsIn _ mainGlobals "dict" = some none; k_is))
    (case xz86 => (show PySem.W.nsIn _ mainGlobals "enumerate" = some none; k_is))
    (case xz87 => (show PySem.W.nsIn _ mainGlobals "int" = some none; k_is))
    (case xz88 => (show PySem.W.nsIn _ mainGlobals "isinstance" = some none; k_is))
    (case xz89 => (show PySem.W.nsIn _ mainGlobals "len" = some none; k_is))
    (case xz90 => (show PySem.W.nsIn _ mainGlobals "list" = some none; k_is))
    (case xz91 => (show PySem.W.nsIn _ mainGlobals "max" = some none; k_is))
    (case xz92 => (show PySem.W.nsIn _ mainGlobals "min" = some none; k_is))
    (case xz93 => (show PySem.W.nsIn _ mainGlobals "range" = some none; k_is))
    (case xz94 => (show PySem.W.nsIn _ mainGlobals "reversed" = some none; k_is))
    (case xz95 => (show PySem.W.nsIn _ mainGlobals "sorted" = some none; k_is))
    (case xz96 => (show PySem.W.nsIn _ mainGlobals "str" = some none; k_is))
    (case xz97 => (show PySem.W.nsIn _ mainGlobals "tuple" = some none; k_is))
    (case xz98 => (show PySem.W.nsIn _ mainGlobals "zip" = some none; k_is))
  case xtab =>
    intro w
    kernel_rfl
  case xerr =>
    intro w h mg KX G X hK hm
    refine' EVX.px_of KX G hK hm ?yB0 ?ye0 ?ym0_0 ?ym0_1 ?yt0ValueError ?yB1 ?ye1 ?ym1_0 ?ym1_1 ?yt1ValueError
    (case yB0 => (refine' ⟨PySem.F.excBase_ValueError, ?nsB0, ?qB0, ?kB0, ?sbB0, ?tyB0⟩; (case nsB0 => k_is); (case qB0 => first | kernel_rfl | kx_is | k_is); (case kB0 => k_is); (case sbB0 => k_is); (case tyB0 => k_is)))
    (case ye0 => (constructor <;> k_is))
    (case ym0_0 => first | kernel_rfl | k_is)
    (case ym0_1 => first | kernel_rfl | k_is)
    (case yt0ValueError => first | kit_is | k_is | kernel_rfl)
    (case yB1 => (refine' ⟨PySem.F.excBase_ValueError, ?nsB1, ?qB1, ?kB1, ?sbB1, ?tyB1⟩; (case nsB1 => k_is); (case qB1 => first | kernel_rfl | kx_is | k_is); (case kB1 => k_is); (case sbB1 => k_is); (case tyB1 => k_is)))
    (case ye1 => (constructor <;> k_is))
    (case ym1_0 => first | kernel_rfl | k_is)
    (case ym1_1 => first | kernel_rfl | k_is)
    (case yt1ValueError => first | kit_is | k_is | kernel_rfl)
#print axioms PySem.Challenge.cw_everysource_k90_steady_by_hand_and_what_holds
