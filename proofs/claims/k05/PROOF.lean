import PyProof.Rows.All
import Wide.All
import OpenK.AllK
import Wide.FinOn
import HandS.ForMost
import HandS.ForExc
import HandS.Wide
import HandS.IsInst
import HandS.Zip
import HandS.Walk
import PyProof.ReprRoads
import HandS.Style
import PyProof.ReprBulk
import HandS.RaiseMore
import HandS.TryOnly
import PySem.Challenge.RW_dialpack_k05_turns_of_great_numbers
set_option Elab.async false
set_option linter.all false
set_option maxRecDepth 100000
set_option maxHeartbeats 4000000
namespace Dl
open PySem PySem.Spec PyProof.Rows L2
abbrev Slots := L2.St

/-! ## what a slot is known to hold -/
inductive Rv where
  | any
  | mu
  | d (x : PyData)
  | cell (a : Addr)
  | tup (xs : List Rv)
  | raw (v : V)

abbrev Mem := List (Addr × (List Rv → Prop))
abbrev Frg := PySem.W.Frag
/-- just this content -/
def Is (rs : List Rv) : List Rv → Prop := fun x => x = rs

mutual
inductive RvOk (K : Frg) (B : Hp) : V → Rv → Prop
  | any (v : V) : RvOk K B v .any
  | mu (v : V) : RvOk K B v .mu
  | d {v : V} {x : PyData} : Dp K B v x → RvOk K B v (.d x)
  | cell (a : Addr) : RvOk K B (.ref a) (.cell a)
  | raw (v : V) : RvOk K B v (.raw v)
  | tup {a : Addr} {xs : List V} {rs : List Rv} : SqT K B a xs → RvAll K B xs rs → RvOk K B (.ref a) (.tup rs)
inductive RvAll (K : Frg) (B : Hp) : List V → List Rv → Prop
  | nil : RvAll K B [] []
  | cons {v : V} {vs : List V} {r : Rv} {rs : List Rv} : RvOk K B v r → RvAll K B vs rs → RvAll K B (v :: vs) (r :: rs)
end

theorem sq_mono {K : Frg} {H H' : Hp} (e : Same H H') {a : Addr} {xs : List V} (h : SqT K H a xs) : SqT K H' a xs := by
  rcases h with (h | ⟨o, h⟩) | h
  · exact .inl (.inl (e _ _ h))
  · exact .inl (.inr ⟨o, e _ _ h⟩)
  · exact .inr h
mutual
theorem dp_mono {K : Frg} {H H' : Hp} (e : Same H H') : ∀ {v : V} (d : PyData), Dp K H v d → Dp K H' v d
  | _, _, .non => .non
  | _, _, .bl b => .bl b
  | _, _, .int i => .int i
  | _, _, .str x => .str x
  | _, _, .lst h a => .lst (e.seq h) (dpAll_mono e _ a)
  | _, _, .tup h a => .tup (sq_mono e h) (dpAll_mono e _ a)
theorem dpAll_mono {K : Frg} {H H' : Hp} (e : Same H H') : ∀ {vs : List V} (ds : List PyData), DpAll K H vs ds → DpAll K H' vs ds
  | _, _, .nil => .nil
  | _, _, .cons h a => .cons (dp_mono e _ h) (dpAll_mono e _ a)
end
mutual
theorem rv_mono {K : Frg} {H H' : Hp} (e : Same H H') : ∀ {v : V} {r : Rv}, RvOk K H v r → RvOk K H' v r
  | _, _, .any v => .any v
  | _, _, .mu v => .mu v
  | _, _, .d h => .d (dp_mono e _ h)
  | _, _, .cell a => .cell a
  | _, _, .raw v => .raw v
  | _, _, .tup h a => .tup (sq_mono e h) (rvAll_mono e a)
theorem rvAll_mono {K : Frg} {H H' : Hp} (e : Same H H') : ∀ {vs : List V} {rs : List Rv}, RvAll K H vs rs → RvAll K H' vs rs
  | _, _, .nil => .nil
  | _, _, .cons h a => .cons (rv_mono e h) (rvAll_mono e a)
end
theorem RvAll.length {K : Frg} {B : Hp} : ∀ {vs : List V} {rs : List Rv}, RvAll K B vs rs → vs.length = rs.length
  | _, _, .nil => rfl
  | _, _, .cons _ a => by simp [RvAll.length a]
theorem DpAll.len {K : Frg} {B : Hp} : ∀ {vs : List V} {rs : List PyData}, DpAll K B vs rs → vs.length = rs.length
  | _, _, .nil => rfl
  | _, _, .cons _ a => by simp [DpAll.len a]
theorem RvAll.get {K : Frg} {B : Hp} : ∀ {vs : List V} {rs : List Rv} (i : Nat) (r : Rv), RvAll K B vs rs → rs[i]? = some r → ∃ v, vs[i]? = some v ∧ RvOk K B v r
  | _, _, i, _, .nil, h => by simp at h
  | _, _, 0, _, .cons h _, e => by simp at e; subst e; exact ⟨_, rfl, h⟩
  | _, _, i + 1, r, .cons _ a, e => by
    obtain ⟨v, h1, h2⟩ := RvAll.get i r a (by simpa using e)
    exact ⟨v, by simpa using h1, h2⟩
theorem DpAll.get {K : Frg} {B : Hp} : ∀ {vs : List V} {rs : List PyData} (i : Nat) (r : PyData), DpAll K B vs rs → rs[i]? = some r → ∃ v, vs[i]? = some v ∧ Dp K B v r
  | _, _, i, _, .nil, h => by simp at h
  | _, _, 0, _, .cons h _, e => by simp at e; subst e; exact ⟨_, rfl, h⟩
  | _, _, i + 1, r, .cons _ a, e => by
    obtain ⟨v, h1, h2⟩ := DpAll.get i r a (by simpa using e)
    exact ⟨v, by simpa using h1, h2⟩
theorem RvAll.app {K : Frg} {B : Hp} : ∀ {vs ws : List V} {rs qs : List Rv}, RvAll K B vs rs → RvAll K B ws qs → RvAll K B (vs ++ ws) (rs ++ qs)
  | _, _, _, _, .nil, h => h
  | _, _, _, _, .cons h a, b => .cons h (RvAll.app a b)
theorem DpAll.app {K : Frg} {B : Hp} : ∀ {vs ws : List V} {rs qs : List PyData}, DpAll K B vs rs → DpAll K B ws qs → DpAll K B (vs ++ ws) (rs ++ qs)
  | _, _, _, _, .nil, h => h
  | _, _, _, _, .cons h a, b => .cons h (DpAll.app a b)
/-- data only -/
theorem RvAll.data {K : Frg} {B : Hp} : ∀ {vs : List V} {ds : List PyData}, RvAll K B vs (ds.map Rv.d) → DpAll K B vs ds
  | _, [], h => by cases h; exact .nil
  | _, d :: ds, h => by
    cases h with
    | cons h1 h2 =>
      cases h1 with
      | d h1 => exact .cons h1 (RvAll.data h2)
theorem RvAll.ofData {K : Frg} {B : Hp} : ∀ {vs : List V} {ds : List PyData}, DpAll K B vs ds → RvAll K B vs (ds.map Rv.d)
  | _, _, .nil => .nil
  | _, _, .cons h a => .cons (.d h) (RvAll.ofData a)

/-! ## slots -/
inductive SlotOk (K : Frg) (B : Hp) : Option V → Rv → Prop
  | none1 : SlotOk K B none .any
  | none2 : SlotOk K B none .mu
  | some {v : V} {r : Rv} : RvOk K B v r → SlotOk K B (some v) r
abbrev EnvOk (K : Frg) (B : Hp) : Slots → List Rv → Prop := Paired (SlotOk K B)
theorem env_mono {K : Frg} {H H' : Hp} (e : Same H H') {σ : Slots} {ρ : List Rv} (h : EnvOk K H σ ρ) : EnvOk K H' σ ρ :=
  Paired.mapP h fun o r q => by
    cases q with
    | none1 => exact .none1
    | none2 => exact .none2
    | some q => exact .some (rv_mono e q)
def Rv.isAny : Rv → Bool
  | .any => true
  | .mu => true
  | _ => false
theorem env_get {K : Frg} {B : Hp} : ∀ {σ : Slots} {ρ : List Rv} (i : Nat) {r : Rv}, EnvOk K B σ ρ → ρ[i]? = some r → r.isAny = false → ∃ v, σ[i]? = some (some v) ∧ RvOk K B v r
  | _, _, i, _, .nil, h, _ => by simp at h
  | _, _, 0, _, .cons h _, e, n => by
    simp at e
    subst e
    cases h with
    | none1 => cases n
    | none2 => cases n
    | some h => exact ⟨_, rfl, h⟩
  | _, _, i + 1, r, .cons _ a, e, n => by
    obtain ⟨v, h1, h2⟩ := env_get i (r := r) a (by simpa using e) n
    exact ⟨v, by simpa using h1, h2⟩
theorem env_set {K : Frg} {B : Hp} {o : Option V} {r : Rv} (q : SlotOk K B o r) : ∀ {σ : Slots} {ρ : List Rv} (i : Nat), EnvOk K B σ ρ → EnvOk K B (σ.set i o) (ρ.set i r)
  | _, _, _, .nil => .nil
  | _, _, 0, .cons _ t => .cons q t
  | _, _, i + 1, .cons h t => .cons h (env_set q i t)
theorem env_len {K : Frg} {B : Hp} {σ : Slots} {ρ : List Rv} (h : EnvOk K B σ ρ) : σ.length = ρ.length := Paired.length h
def start (n : Nat) (rs : List Rv) (mus : List Rv) : List Rv := rs ++ mus

/-! ## the heap: what is known for good (B), what may change (M), the rest -/
structure Ok (K : Frg) (B H : Hp) (M : Mem) : Prop where
  ext : Same B H
  mem : ∀ p ∈ M, B p.1 = none ∧ ∃ xs rs, H p.1 = some (.lst xs) ∧ RvAll K B xs rs ∧ p.2 rs
  nd : (M.map (·.1)).Nodup
structure Fr (B H : Hp) (M : Mem) (B' H' : Hp) (M' : Mem) : Prop where
  ex : Same B B'
  out : ∀ a o, H a = some o → B a = none → (∀ p ∈ M, p.1 ≠ a) → H' a = some o ∧ B' a = none
  new : ∀ p ∈ M', (∃ q ∈ M, q.1 = p.1) ∨ H p.1 = none
  grow : ∀ a, H' a = none → H a = none
theorem Fr.refl {B H : Hp} {M : Mem} : Fr B H M B H M := ⟨Same.refl _, fun _ _ h b _ => ⟨h, b⟩, fun p hp => .inl ⟨p, hp, rfl⟩, fun _ h => h⟩
theorem Fr.trans {B H B1 H1 B2 H2 : Hp} {M M1 M2 : Mem} (a : Fr B H M B1 H1 M1) (b : Fr B1 H1 M1 B2 H2 M2) : Fr B H M B2 H2 M2 where
  ex := a.ex.trans b.ex
  out := fun x o h hb hm => by
    obtain ⟨h1, b1⟩ := a.out x o h hb hm
    refine b.out x o h1 b1 fun p hp e => ?_
    rcases a.new p hp with ⟨q, hq, e2⟩ | e2
    · exact hm q hq (e2.trans e)
    · rw [e, h] at e2; cases e2
  new := fun p hp => by
    rcases b.new p hp with ⟨q, hq, e⟩ | e
    · rcases a.new q hq with ⟨q2, h2, e2⟩ | e2
      · exact .inl ⟨q2, h2, e2.trans e⟩
      · exact .inr (by rw [← e]; exact e2)
    · exact .inr (a.grow _ e)
  grow := fun x h => a.grow x (b.grow x h)

/-! ## exceptions in the air -/
structure EV where
  cls : Value
  fs : Option (List (Str × PyData))
inductive EvOk (K : Frg) (B H : Hp) (x : EV) : Value → Option Addr → Prop
  | none : x.fs = none → EvOk K B H x x.cls none
  | some {d : Addr} {fs : List (Str × V)} {ds : List (Str × PyData)} : x.fs = some ds → H d = some (.xd fs) → fs.map (·.1) = ds.map (·.1) → DpAll K B (fs.map (·.2)) (ds.map (·.2)) → EvOk K B H x x.cls (some d)
/-- the wish about exceptions: what they are, the slots, the memory -/
abbrev Xi := EV → List Rv → Mem → Prop
def X0 : Xi := fun _ _ _ => False
def PostX (K : Frg) (B H : Hp) (M : Mem) (Ξ : Xi) : WX := fun cls d σ' H' =>
  ∃ B' M' ρ' x, Ok K B' H' M' ∧ Fr B H M B' H' M' ∧ EnvOk K B' σ' ρ' ∧ EvOk K B' H' x cls d ∧ Ξ x ρ' M'
theorem postX_after {K : Frg} {B H B1 H1 : Hp} {M M1 : Mem} {Ξ : Xi} (f : Fr B H M B1 H1 M1) : ∀ c d σ H', PostX K B1 H1 M1 Ξ c d σ H' → PostX K B H M Ξ c d σ H' :=
  fun c d σ H' ⟨B', M', ρ', x, o, g, e, k, q⟩ => ⟨B', M', ρ', x, o, f.trans g, e, k, q⟩

/-! ## judgements -/
abbrev Pst := Rv → Mem → Prop
def PostE (K : Frg) (B H : Hp) (M : Mem) (Φ : Pst) : VK := fun v H' => ∃ B' M' r, Ok K B' H' M' ∧ Fr B H M B' H' M' ∧ RvOk K B' v r ∧ Φ r M'
theorem postE_after {K : Frg} {B H B1 H1 : Hp} {M M1 : Mem} {Φ : Pst} (f : Fr B H M B1 H1 M1) {v : V} {H' : Hp} : PostE K B1 H1 M1 Φ v H' → PostE K B H M Φ v H' :=
  fun ⟨B', M', r, o, g, e, q⟩ => ⟨B', M', r, o, f.trans g, e, q⟩
theorem postE_mono {K : Frg} {B H : Hp} {M : Mem} {Φ Φ' : Pst} (h : ∀ r M', Φ r M' → Φ' r M') {v : V} {H' : Hp} : PostE K B H M Φ v H' → PostE K B H M Φ' v H' :=
  fun ⟨B', M', r, o, g, e, q⟩ => ⟨B', M', r, o, g, e, h _ _ q⟩
theorem post_same {K : Frg} {B H : Hp} {M : Mem} {Φ : Pst} {v : V} {r : Rv} (ok : Ok K B H M) (hr : RvOk K B v r) (h : Φ r M) : PostE K B H M Φ v H := ⟨B, M, r, ok, .refl, hr, h⟩
theorem sub_none {B H : Hp} (e : Same B H) {p : Addr} (h : H p = none) : B p = none := e.free h
theorem same_new {H : Hp} {p : Addr} {o : HO} (h : H p = none) : Same H (upd H p o) := fun a u e => by
  rw [upd_ne (ne_of_none e h)]
  exact e
/-- a new object that will not change -/
theorem ok_frz {K : Frg} {B H : Hp} {M : Mem} {p : Addr} {o : HO} (ok : Ok K B H M) (hp : H p = none) : Ok K (upd B p o) (upd H p o) M ∧ Fr B H M (upd B p o) (upd H p o) M := by
  have bp := sub_none ok.ext hp
  have ne : ∀ q ∈ M, q.1 ≠ p := fun q hq e => by
    obtain ⟨_, xs, rs, h, _⟩ := ok.mem q hq
    rw [e, hp] at h; cases h
  refine ⟨⟨fun a u e => ?_, fun q hq => ?_, ok.nd⟩, ⟨same_new bp, fun a u h b _ => ?_, fun q hq => .inl ⟨q, hq, rfl⟩, fun a h => ?_⟩⟩
  · by_cases ha : a = p
    · subst ha; rw [upd_same] at e ⊢; exact e
    · rw [upd_ne ha] at e ⊢; exact ok.ext a u e
  · obtain ⟨h1, xs, rs, h2, h3, h4⟩ := ok.mem q hq
    exact ⟨by rw [upd_ne (ne q hq)]; exact h1, xs, rs, by rw [upd_ne (ne q hq)]; exact h2, rvAll_mono (same_new bp) h3, h4⟩
  · have ha := ne_of_none h hp
    exact ⟨by rw [upd_ne ha]; exact h, by rw [upd_ne ha]; exact b⟩
  · by_cases ha : a = p
    · subst ha; exact hp
    · rw [upd_ne ha] at h; exact h
/-- a new list that may change -/
theorem ok_own {K : Frg} {B H : Hp} {M : Mem} {p : Addr} {xs : List V} {rs : List Rv} {P : List Rv → Prop} (ok : Ok K B H M) (hp : H p = none) (hx : RvAll K B xs rs) (hP : P rs) :
    Ok K B (upd H p (.lst xs)) ((p, P) :: M) ∧ Fr B H M B (upd H p (.lst xs)) ((p, P) :: M) := by
  have bp := sub_none ok.ext hp
  have ne : ∀ q ∈ M, q.1 ≠ p := fun q hq e => by
    obtain ⟨_, xs, rs, h, _⟩ := ok.mem q hq
    rw [e, hp] at h; cases h
  refine ⟨⟨fun a u e => ?_, fun q hq => ?_, ?_⟩, ⟨Same.refl _, fun a u h b _ => ?_, fun q hq => ?_, fun a h => ?_⟩⟩
  · have ha : a ≠ p := ne_of_none e bp
    rw [upd_ne ha]; exact ok.ext a u e
  · rcases List.mem_cons.mp hq with rfl | hq
    · exact ⟨bp, xs, rs, upd_same, hx, hP⟩
    · obtain ⟨h1, xs, rs, h2, h3, h4⟩ := ok.mem q hq
      exact ⟨h1, xs, rs, by rw [upd_ne (ne q hq)]; exact h2, h3, h4⟩
  · rw [List.map_cons, List.nodup_cons]
    refine ⟨fun hm => ?_, ok.nd⟩
    obtain ⟨q, hq, e⟩ := List.mem_map.mp hm
    exact ne q hq e
  · have ha := ne_of_none h hp
    exact ⟨by rw [upd_ne ha]; exact h, b⟩
  · rcases List.mem_cons.mp hq with rfl | hq
    · exact .inr hp
    · exact .inl ⟨q, hq, rfl⟩
  · by_cases ha : a = p
    · subst ha; exact hp
    · rw [upd_ne ha] at h; exact h
/-- a list that may change is changed -/
theorem ok_mut {K : Frg} {B H : Hp} {M1 M2 : Mem} {a : Addr} {P P' : List Rv → Prop} {xs : List V} {rs : List Rv} (ok : Ok K B H (M1 ++ (a, P) :: M2)) (hx : RvAll K B xs rs) (hP : P' rs) :
    Ok K B (upd H a (.lst xs)) (M1 ++ (a, P') :: M2) ∧ Fr B H (M1 ++ (a, P) :: M2) B (upd H a (.lst xs)) (M1 ++ (a, P') :: M2) := by
  have nd := ok.nd
  rw [List.map_append, List.map_cons] at nd
  have n1 := List.nodup_append.mp nd
  have n2 := List.nodup_cons.mp n1.2.1
  have na1 : ∀ q ∈ M1, q.1 ≠ a := fun q hq e => n1.2.2 q.1 (List.mem_map.mpr ⟨q, hq, rfl⟩) a (by simp) e
  have na2 : ∀ q ∈ M2, q.1 ≠ a := fun q hq e => n2.1 (List.mem_map.mpr ⟨q, hq, e⟩)
  have hm : (a, P) ∈ M1 ++ (a, P) :: M2 := by simp
  obtain ⟨ba, xs0, rs0, ha, _, _⟩ := ok.mem _ hm
  have keep : ∀ q, (q ∈ M1 ∨ q ∈ M2) → q.1 ≠ a ∧ q ∈ M1 ++ (a, P) :: M2 := fun q hq => by
    rcases hq with hq | hq
    · exact ⟨na1 q hq, by simp [hq]⟩
    · exact ⟨na2 q hq, by simp [hq]⟩
  refine ⟨⟨fun x u e => ?_, fun q hq => ?_, ?_⟩, ⟨Same.refl _, fun x u h b hn => ?_, fun q hq => ?_, fun x h => ?_⟩⟩
  · have hx : x ≠ a := ne_of_none e ba
    rw [upd_ne hx]; exact ok.ext x u e
  · have hc : q = (a, P') ∨ (q ∈ M1 ∨ q ∈ M2) := by
      rcases List.mem_append.mp hq with h | h
      · exact .inr (.inl h)
      · rcases List.mem_cons.mp h with h | h
        · exact .inl h
        · exact .inr (.inr h)
    rcases hc with rfl | hc
    · exact ⟨ba, xs, rs, upd_same, hx, hP⟩
    · obtain ⟨k1, k2⟩ := keep q hc
      obtain ⟨h1, xs, rs, h2, h3, h4⟩ := ok.mem q k2
      exact ⟨h1, xs, rs, by rw [upd_ne k1]; exact h2, h3, h4⟩
  · rw [List.map_append, List.map_cons]; exact nd
  · have hx : x ≠ a := fun e => hn _ hm e.symm
    exact ⟨by rw [upd_ne hx]; exact h, b⟩
  · rcases List.mem_append.mp hq with h | h
    · exact .inl ⟨q, by simp [h], rfl⟩
    · rcases List.mem_cons.mp h with h | h
      · exact .inl ⟨_, hm, by rw [h]⟩
      · exact .inl ⟨q, by simp [h], rfl⟩
  · by_cases ha' : x = a
    · subst ha'; rw [upd_same] at h; cases h
    · rw [upd_ne ha'] at h; exact h
/-- a list that will not change any more -/
theorem ok_freeze {K : Frg} {B H : Hp} {M1 M2 : Mem} {a : Addr} {P : List Rv → Prop} (ok : Ok K B H (M1 ++ (a, P) :: M2)) :
    ∃ xs rs, RvAll K B xs rs ∧ P rs ∧ Ok K (upd B a (.lst xs)) H (M1 ++ M2) ∧ Fr B H (M1 ++ (a, P) :: M2) (upd B a (.lst xs)) H (M1 ++ M2) := by
  have nd := ok.nd
  rw [List.map_append, List.map_cons] at nd
  have n1 := List.nodup_append.mp nd
  have n2 := List.nodup_cons.mp n1.2.1
  have na1 : ∀ q ∈ M1, q.1 ≠ a := fun q hq e => n1.2.2 q.1 (List.mem_map.mpr ⟨q, hq, rfl⟩) a (by simp) e
  have na2 : ∀ q ∈ M2, q.1 ≠ a := fun q hq e => n2.1 (List.mem_map.mpr ⟨q, hq, e⟩)
  have hm : (a, P) ∈ M1 ++ (a, P) :: M2 := by simp
  obtain ⟨ba, xs, rs, ha, hx, hP⟩ := ok.mem _ hm
  refine ⟨xs, rs, hx, hP, ⟨fun x u e => ?_, fun q hq => ?_, ?_⟩, ⟨same_new ba, fun x u h b hn => ?_, fun q hq => ?_, fun x h => h⟩⟩
  · by_cases e2 : x = a
    · subst e2; rw [upd_same] at e; cases e; exact ha
    · rw [upd_ne e2] at e; exact ok.ext x u e
  · have hc : q.1 ≠ a ∧ q ∈ M1 ++ (a, P) :: M2 := by
      rcases List.mem_append.mp hq with h | h
      · exact ⟨na1 q h, by simp [h]⟩
      · exact ⟨na2 q h, by simp [h]⟩
    obtain ⟨h1, xs', rs', h2, h3, h4⟩ := ok.mem q hc.2
    exact ⟨by rw [upd_ne hc.1]; exact h1, xs', rs', h2, rvAll_mono (same_new ba) h3, h4⟩
  · rw [List.map_append]
    exact nd.sublist (List.Sublist.append_left (List.sublist_cons_self _ _) _)
  · have hx : x ≠ a := fun e => hn _ hm e.symm
    exact ⟨h, by rw [upd_ne hx]; exact b⟩
  · rcases List.mem_append.mp hq with h | h
    · exact .inl ⟨q, by simp [h], rfl⟩
    · exact .inl ⟨q, by simp [h], rfl⟩
theorem post_frz {K : Frg} {B H : Hp} {M : Mem} {Φ : Pst} {p : Addr} {o : HO} {r : Rv} (ok : Ok K B H M) (hp : H p = none) (hr : RvOk K (upd B p o) (.ref p) r) (h : Φ r M) : PostE K B H M Φ (.ref p) (upd H p o) :=
  ⟨_, M, r, (ok_frz ok hp).1, (ok_frz ok hp).2, hr, h⟩
theorem post_own {K : Frg} {B H : Hp} {M : Mem} {Φ : Pst} {p : Addr} {xs : List V} {rs : List Rv} {P : List Rv → Prop} (ok : Ok K B H M) (hp : H p = none) (hx : RvAll K B xs rs) (hP : P rs) (h : Φ (.cell p) ((p, P) :: M)) :
    PostE K B H M Φ (.ref p) (upd H p (.lst xs)) :=
  ⟨_, _, _, (ok_own ok hp hx hP).1, (ok_own ok hp hx hP).2, .cell p, h⟩

section
variable (X : Cx)
/-- what an expression does, by its own run -/
def eS (e : Expr) : TE := fun σ H Q => ∀ (pins : List (Addr × Obj)) (s : Shared), Inv X pins σ H s → wpAny (model X.prog X.w) X.A (eval e X.env) (EP X pins σ Q) X.xe s
def tS (e : Expr) : TT := fun σ H Q => ∀ (pins : List (Addr × Obj)) (s : Shared), Inv X pins σ H s → wpAny (model X.prog X.w) X.A (isTrue e X.env (eval e X.env)) (TP X pins σ Q) X.xe s
def wS (e : Expr) : TT := fun σ H Q => ∀ (whole : Sem Value) (pins : List (Addr × Obj)) (s : Shared), Inv X pins σ H s → wpAny (model X.prog X.w) X.A (isTrue e X.env whole) (TP X pins σ Q) X.xe s
def aS (es : List Expr) : TA := fun σ H Q => ∀ (pos : Pos) (pins : List (Addr × Obj)) (s : Shared), Inv X pins σ H s → wpAny (model X.prog X.w) X.A (spliced (backTo pos (starEach es X.env))) (AP X pins σ Q) X.xe s
def sS (st : Stmt) : TS := fun D σ H => ∀ (pins : List (Addr × Obj)) (s : Shared), Inv X pins σ H s → wpAny (model X.prog X.w) X.A (exec st X.env) (SP X pins D) X.xe s
def ssS (st : List Stmt) : TS := fun D σ H => ∀ (pins : List (Addr × Obj)) (s : Shared), Inv X pins σ H s → wpAny (model X.prog X.w) X.A (execs st X.env) (SP X pins D) X.xe s
def oS (f : Value → Value → Sem Value) : R2 := fun x y H Q => ∀ (pins : List (Addr × Obj)) (s : Shared) (σ : Slots) (v u : Value), Inv X pins σ H s → RelV x v → RelV y u → wpAny (model X.prog X.w) X.A (f v u) (EP X pins σ Q) X.xe s
def uS (f : Value → Sem Value) : V → Hp → VK → Prop := fun x H Q => ∀ (pins : List (Addr × Obj)) (s : Shared) (σ : Slots) (v : Value), Inv X pins σ H s → RelV x v → wpAny (model X.prog X.w) X.A (f v) (EP X pins σ Q) X.xe s
def cS (f : Value) : List V → Hp → VK → Prop := fun xs H Q => ∀ (pins : List (Addr × Obj)) (s : Shared) (σ : Slots) (us : List Value), Inv X pins σ H s → Vals xs us → wpAny (model X.prog X.w) X.A (call f us) (EP X pins σ Q) X.xe s
variable {X}
theorem pe_S {e : Expr} : PE X e (eS X e) := ⟨fun pins s _ _ _ I h => h pins s I⟩
theorem pt_S {e : Expr} : PT X e (tS X e) := ⟨fun pins s _ _ _ I h => h pins s I⟩
theorem pw_S {e : Expr} : PW X e (wS X e) := ⟨fun wh pins s _ _ _ I h => h wh pins s I⟩
theorem pa_S {e : List Expr} : PA X e (aS X e) := ⟨fun pos pins s _ _ _ I h => h pos pins s I⟩
theorem ps_S {e : Stmt} : PS X e (sS X e) := ⟨fun pins s _ _ _ I h => h pins s I⟩
theorem pss_S {e : List Stmt} : PSs X e (ssS X e) := ⟨fun pins s _ _ _ I h => h pins s I⟩
theorem op_S {f : Value → Value → Sem Value} : OpR X f (oS X f) := fun pins s σ _ _ _ v u _ I r1 r2 h => h pins s σ v u I r1 r2
theorem un_S {f : Value → Sem Value} : UnR X f (uS X f) := fun pins s σ _ _ v _ I r1 h => h pins s σ v I r1
theorem call_S {f : Value} : CallR X f (cS X f) := fun pins s σ _ _ us _ I r1 h => h pins s σ us I r1
theorem eS_of {e : Expr} {t : TE} (h : PE X e t) {σ : Slots} {H : Hp} {Q : VK} (q : t σ H Q) : eS X e σ H Q := fun pins s I => h.run pins s σ H Q I q
theorem tS_of {e : Expr} {t : TT} (h : PT X e t) {σ : Slots} {H : Hp} {Q : Bool → Hp → Prop} (q : t σ H Q) : tS X e σ H Q := fun pins s I => h.run pins s σ H Q I q
theorem wS_of {e : Expr} {t : TT} (h : PW X e t) {σ : Slots} {H : Hp} {Q : Bool → Hp → Prop} (q : t σ H Q) : wS X e σ H Q := fun wh pins s I => h.run wh pins s σ H Q I q
theorem aS_of {e : List Expr} {t : TA} (h : PA X e t) {σ : Slots} {H : Hp} {Q : List V → Hp → Prop} (q : t σ H Q) : aS X e σ H Q := fun pos pins s I => h.run pos pins s σ H Q I q
theorem sS_of {e : Stmt} {t : TS} (h : PS X e t) {σ : Slots} {H : Hp} {D : Ends} (q : t D σ H) : sS X e D σ H := fun pins s I => h.run pins s σ H D I q
theorem ssS_of {e : List Stmt} {t : TS} (h : PSs X e t) {σ : Slots} {H : Hp} {D : Ends} (q : t D σ H) : ssS X e D σ H := fun pins s I => h.run pins s σ H D I q
theorem oS_of {f : Value → Value → Sem Value} {r : R2} (h : OpR X f r) {x y : V} {H : Hp} {Q : VK} (q : r x y H Q) : oS X f x y H Q := fun pins s σ v u I r1 r2 => h pins s σ H x y v u Q I r1 r2 q
theorem uS_of {f : Value → Sem Value} {r : V → Hp → VK → Prop} (h : UnR X f r) {x : V} {H : Hp} {Q : VK} (q : r x H Q) : uS X f x H Q := fun pins s σ v I r1 => h pins s σ H x v Q I r1 q
theorem cS_of {f : Value} {r : List V → Hp → VK → Prop} (h : CallR X f r) {x : List V} {H : Hp} {Q : VK} (q : r x H Q) : cS X f x H Q := fun pins s σ v I r1 => h pins s σ H x v Q I r1 q
theorem eS_mono {e : Expr} {σ : Slots} {H : Hp} {Q Q' : VK} (h : eS X e σ H Q) (k : ∀ v H', Q v H' → Q' v H') : eS X e σ H Q' := fun pins s I =>
  thn (h pins s I) fun u s' ⟨v, H', I', r, q⟩ => ⟨v, H', I', r, k _ _ q⟩
theorem tS_mono {e : Expr} {σ : Slots} {H : Hp} {Q Q' : Bool → Hp → Prop} (h : tS X e σ H Q) (k : ∀ v H', Q v H' → Q' v H') : tS X e σ H Q' := fun pins s I =>
  thn (h pins s I) fun u s' ⟨H', I', q⟩ => ⟨H', I', k _ _ q⟩
theorem wS_mono {e : Expr} {σ : Slots} {H : Hp} {Q Q' : Bool → Hp → Prop} (h : wS X e σ H Q) (k : ∀ v H', Q v H' → Q' v H') : wS X e σ H Q' := fun wh pins s I =>
  thn (h wh pins s I) fun u s' ⟨H', I', q⟩ => ⟨H', I', k _ _ q⟩
theorem aS_mono {e : List Expr} {σ : Slots} {H : Hp} {Q Q' : List V → Hp → Prop} (h : aS X e σ H Q) (k : ∀ v H', Q v H' → Q' v H') : aS X e σ H Q' := fun pos pins s I =>
  thn (h pos pins s I) fun u s' ⟨v, H', I', r, q⟩ => ⟨v, H', I', r, k _ _ q⟩
theorem oS_mono {f : Value → Value → Sem Value} {x y : V} {H : Hp} {Q Q' : VK} (h : oS X f x y H Q) (k : ∀ v H', Q v H' → Q' v H') : oS X f x y H Q' := fun pins s σ v u I r1 r2 =>
  thn (h pins s σ v u I r1 r2) fun u s' ⟨v, H', I', r, q⟩ => ⟨v, H', I', r, k _ _ q⟩
theorem cS_mono {f : Value} {x : List V} {H : Hp} {Q Q' : VK} (h : cS X f x H Q) (k : ∀ v H', Q v H' → Q' v H') : cS X f x H Q' := fun pins s σ us I r1 =>
  thn (h pins s σ us I r1) fun u s' ⟨v, H', I', r, q⟩ => ⟨v, H', I', r, k _ _ q⟩
end

/-- an expression, from slots ρ and memory M, has Φ of its value (and Ξ of what it raises) -/
def GE (X : Cx) (e : Expr) (ρ : List Rv) (M : Mem) (Φ : Pst) (Ξ : Xi) : Prop :=
  ∀ B H σ, Ok X.K B H M → EnvOk X.K B σ ρ → Takes X (PostX X.K B H M Ξ) → eS X e σ H (PostE X.K B H M Φ)
def PostT (K : Frg) (B H : Hp) (M : Mem) (Φ : Bool → Mem → Prop) : Bool → Hp → Prop := fun b H' => ∃ B' M', Ok K B' H' M' ∧ Fr B H M B' H' M' ∧ Φ b M'
def GT (X : Cx) (e : Expr) (ρ : List Rv) (M : Mem) (Φ : Bool → Mem → Prop) (Ξ : Xi) : Prop :=
  ∀ B H σ, Ok X.K B H M → EnvOk X.K B σ ρ → Takes X (PostX X.K B H M Ξ) → tS X e σ H (PostT X.K B H M Φ)
def GW (X : Cx) (e : Expr) (ρ : List Rv) (M : Mem) (Φ : Bool → Mem → Prop) (Ξ : Xi) : Prop :=
  ∀ B H σ, Ok X.K B H M → EnvOk X.K B σ ρ → Takes X (PostX X.K B H M Ξ) → wS X e σ H (PostT X.K B H M Φ)
def PostA (K : Frg) (B H : Hp) (M : Mem) (Φ : List Rv → Mem → Prop) : List V → Hp → Prop := fun vs H' => ∃ B' M' rs, Ok K B' H' M' ∧ Fr B H M B' H' M' ∧ RvAll K B' vs rs ∧ Φ rs M'
def GA (X : Cx) (es : List Expr) (ρ : List Rv) (M : Mem) (Φ : List Rv → Mem → Prop) (Ξ : Xi) : Prop :=
  ∀ B H σ, Ok X.K B H M → EnvOk X.K B σ ρ → Takes X (PostX X.K B H M Ξ) → aS X es σ H (PostA X.K B H M Φ)
structure DE where
  nx : List Rv → Mem → Prop
  rt : Rv → Mem → Prop
  bk : List Rv → Mem → Prop := fun _ _ => False
  ct : List Rv → Mem → Prop := fun _ _ => False
  xx : Xi := fun _ _ _ => False
def PostN (K : Frg) (B H : Hp) (M : Mem) (Ψ : List Rv → Mem → Prop) : Slots → Hp → Prop := fun σ' H' => ∃ B' M' ρ', Ok K B' H' M' ∧ Fr B H M B' H' M' ∧ EnvOk K B' σ' ρ' ∧ Ψ ρ' M'
def ends (K : Frg) (B H : Hp) (M : Mem) (D : DE) : Ends where
  nx := PostN K B H M D.nx
  rt := PostE K B H M D.rt
  bk := PostN K B H M D.bk
  ct := PostN K B H M D.ct
def GS (X : Cx) (st : Stmt) (ρ : List Rv) (M : Mem) (D : DE) : Prop :=
  ∀ B H σ, Ok X.K B H M → EnvOk X.K B σ ρ → Takes X (PostX X.K B H M D.xx) → sS X st (ends X.K B H M D) σ H
def GSs (X : Cx) (st : List Stmt) (ρ : List Rv) (M : Mem) (D : DE) : Prop :=
  ∀ B H σ, Ok X.K B H M → EnvOk X.K B σ ρ → Takes X (PostX X.K B H M D.xx) → ssS X st (ends X.K B H M D) σ H
/-- operations by values -/
def G2 (X : Cx) (f : Value → Value → Sem Value) (x y : Rv) (M : Mem) (Φ : Pst) : Prop :=
  ∀ B H v w, Ok X.K B H M → RvOk X.K B v x → RvOk X.K B w y → oS X f v w H (PostE X.K B H M Φ)
def G1 (X : Cx) (f : Value → Sem Value) (x : Rv) (M : Mem) (Φ : Pst) : Prop :=
  ∀ B H v, Ok X.K B H M → RvOk X.K B v x → uS X f v H (PostE X.K B H M Φ)
def GC (X : Cx) (f : Value) (xs : List Rv) (M : Mem) (Φ : Pst) : Prop :=
  ∀ B H vs, Ok X.K B H M → RvAll X.K B vs xs → cS X f vs H (PostE X.K B H M Φ)
end Dl

set_option Elab.async false
set_option linter.all false
set_option maxRecDepth 100000
set_option maxHeartbeats 4000000
namespace Dl
open PySem PySem.Spec PyProof.Rows L2
section
variable {X : Cx} {ρ : List Rv} {M : Mem} {Φ : Pst} {Ξ : Xi}

/-! ## glue -/
theorem tk_after {B H B1 H1 : Hp} {M1 : Mem} {Ξ : Xi} (tk : Takes X (PostX X.K B H M Ξ)) (f : Fr B H M B1 H1 M1) : Takes X (PostX X.K B1 H1 M1 Ξ) := tk.imp (postX_after f)
theorem post_lift {B H B1 H1 : Hp} {M1 : Mem} (f : Fr B H M B1 H1 M1) {e : Expr} {σ : Slots} (h : eS X e σ H1 (PostE X.K B1 H1 M1 Φ)) : eS X e σ H1 (PostE X.K B H M Φ) := eS_mono h fun _ _ => postE_after f
theorem ge_mono {Φ' : Pst} {e : Expr} (h : GE X e ρ M Φ Ξ) (k : ∀ r M', Φ r M' → Φ' r M') : GE X e ρ M Φ' Ξ := fun B H σ ok env tk => eS_mono (h B H σ ok env tk) fun _ _ => postE_mono k
/-- one expression, then a step on its value -/
theorem one {e : Expr} {Ψ : Rv → Mem → Prop} (ha : GE X e ρ M Ψ Ξ) {B H : Hp} {σ : Slots} (ok : Ok X.K B H M) (env : EnvOk X.K B σ ρ) (tk : Takes X (PostX X.K B H M Ξ))
    {Q : VK} (k : ∀ v H1 B1 M1 r, Ok X.K B1 H1 M1 → Fr B H M B1 H1 M1 → RvOk X.K B1 v r → Ψ r M1 → Q v H1) : eS X e σ H Q :=
  eS_mono (ha B H σ ok env tk) fun v H1 ⟨B1, M1, r, o1, f1, q1, p⟩ => k v H1 B1 M1 r o1 f1 q1 p
theorem two {a b : Expr} {f : Value → Value → Sem Value} (ha : GE X a ρ M (fun x M1 => GE X b ρ M1 (fun y M2 => G2 X f x y M2 Φ) Ξ) Ξ)
    {B H : Hp} {σ : Slots} (ok : Ok X.K B H M) (env : EnvOk X.K B σ ρ) (tk : Takes X (PostX X.K B H M Ξ)) :
    eS X a σ H fun v H1 => eS X b σ H1 fun w H2 => oS X f v w H2 (PostE X.K B H M Φ) :=
  one ha ok env tk fun v H1 B1 M1 r o1 f1 q1 hb => one hb o1 (env_mono f1.ex env) (tk_after tk f1) fun w H2 B2 M2 r2 o2 f2 q2 h =>
    oS_mono (h B2 H2 v w o2 (rv_mono f2.ex q1) q2) fun _ _ => postE_after (f1.trans f2)

/-! ## names and constants -/
def Nm (X : Cx) (i : Nat) (x : Str) : Prop := X.N[i]? = some x
structure Var (X : Cx) (i : Nat) (x : Str) : Prop where
  n : X.N[i]? = some x
  v : Vis X.env.scope x
  l : L2.Loc X.env.scope x
  f : X.fn x = true
  d1 : (x == ("__debug__" : Str)) = false
  d2 : (x == ("__classdict__" : Str)) = false
theorem ge_name {i : Nat} {r : Rv} {x : Str} {pos : Pos} (hv : Var X i x) (hr : ρ[i]? = some r) (hn : r.isAny = false) (h : Φ r M) : GE X (.Name x pos) ρ M Φ Ξ := fun B H σ ok env tk => by
  obtain ⟨v, e, q⟩ := env_get i env hr hn
  exact eS_of (pe_var hv.n hv.v hv.d1 hv.d2) ⟨v, e, post_same ok q h⟩
/-- within a comprehension -/
theorem ge_nameC {i : Nat} {r : Rv} {x : Str} {pos : Pos} (hN : Nm X i x) (hv : Vis X.env.scope x) (hr : ρ[i]? = some r) (hn : r.isAny = false) (h : Φ r M)
    (hd : (x == ("__debug__" : Str)) = false := by decide) (hcd : (x == ("__classdict__" : Str)) = false := by decide) : GE X (.Name x pos) ρ M Φ Ξ := fun B H σ ok env tk => by
  obtain ⟨v, e, q⟩ := env_get i env hr hn
  exact eS_of (pe_var hN hv hd hcd) ⟨v, e, post_same ok q h⟩
theorem ge_int {i : Int} {j pos} (h : Φ (.d (.int i)) M) : GE X (.Constant (.int i) j pos) ρ M Φ Ξ := fun B H σ ok env tk => eS_of pe_int (post_same ok (.d (.int i)) h)
theorem ge_bl {b : Bool} {j pos} (h : Φ (.d (.bool b)) M) : GE X (.Constant (.bool b) j pos) ρ M Φ Ξ := fun B H σ ok env tk => eS_of pe_bl (post_same ok (.d (.bl b)) h)
theorem ge_non {j pos} (h : Φ (.d .none) M) : GE X (.Constant .none j pos) ρ M Φ Ξ := fun B H σ ok env tk => eS_of pe_non (post_same ok (.d .non) h)
theorem ge_str {x : Str} {j pos} (h : Φ (.d (.str x)) M) : GE X (.Constant (.str x) j pos) ρ M Φ Ξ := fun B H σ ok env tk => eS_of pe_str (post_same ok (.d (.str x)) h)
structure Glo (X : Cx) (x : Str) (v : V) : Prop where
  ex : ∃ u, X.mg x = some u ∧ RelV v u
  d : (x == ("__debug__" : Str)) = false
theorem ge_glob {x : Str} {v : V} {d : PyData} {pos : Pos} (hm : Glo X x v) (hd : ∀ K H, Dp K H v d) (hg : Gl X x) (h : Φ (.d d) M) : GE X (.Name x pos) ρ M Φ Ξ := fun B H σ ok env tk => by
  obtain ⟨⟨u, hm, r⟩, hdb⟩ := hm
  exact eS_of (pe_glob hg hm r hdb) (post_same ok (.d (hd _ _)) h)

/-! ## operators -/
theorem ge_bin {a b : Expr} {op : Operator} {pos : Pos} (ha : GE X a ρ M (fun x M1 => GE X b ρ M1 (fun y M2 => G2 X (binaryOp op) x y M2 Φ) Ξ) Ξ) : GE X (.BinOp a op b pos) ρ M Φ Ξ :=
  fun B H σ ok env tk => eS_of (pe_op op_S pe_S pe_S) (two ha ok env tk)
theorem ge_cmp {a b : Expr} {op : CmpOp} {pos : Pos} (hm : behindInMarks op b = false) (ha : GE X a ρ M (fun x M1 => GE X b ρ M1 (fun y M2 => G2 X (compareOp op) x y M2 Φ) Ξ) Ξ) : GE X (.Compare a [op] [b] pos) ρ M Φ Ξ :=
  fun B H σ ok env tk => eS_of (pe_cmpR op_S pe_S pe_S hm) (two ha ok env tk)
theorem ge_un {a : Expr} {op : UnaryOp} {pos : Pos} {f : Value → Sem Value} (hp : ∀ {X : Cx} {t : TE} {r : V → Hp → VK → Prop} {pos : Pos}, UnR X f r → PE X a t → PE X (.UnaryOp op a pos) (tUn r t))
    (ha : GE X a ρ M (fun x M1 => G1 X f x M1 Φ) Ξ) : GE X (.UnaryOp op a pos) ρ M Φ Ξ :=
  fun B H σ ok env tk => eS_of (hp un_S pe_S) (one ha ok env tk fun v H1 B1 M1 r o1 f1 q1 h => fun pins s σ v' I r' =>
    thn (h B1 H1 v o1 q1 pins s σ v' I r') fun u s' ⟨w, H', I', r, q⟩ => ⟨w, H', I', r, postE_after f1 q⟩)
section
variable {i j : Int}
theorem g2_mk {f : Value → Value → Sem Value} {r : R2} {x y : Rv} (h : OpR X f r) (k : ∀ B H v w, Ok X.K B H M → RvOk X.K B v x → RvOk X.K B w y → r v w H (PostE X.K B H M Φ)) : G2 X f x y M Φ := fun B H v w ok a b => oS_of h (k B H v w ok a b)
theorem int_of {K : Frg} {B : Hp} {v : V} {i : Int} (h : RvOk K B v (.d (.int i))) : v = .int i := by cases h with | d h => cases h; rfl
theorem bool_of {K : Frg} {B : Hp} {v : V} {i : Bool} (h : RvOk K B v (.d (.bool i))) : v = .bl i := by cases h with | d h => cases h; rfl
theorem str_of {K : Frg} {B : Hp} {v : V} {i : Str} (h : RvOk K B v (.d (.str i))) : v = .str i := by cases h with | d h => cases h; rfl
theorem g2_I0 {f : Value → Value → Sem Value} {g : Int → Int → V} (ho : OpR X f (rI0 g)) {d : PyData} (hd : ∀ K H, Dp K H (g i j) d) (h : Φ (.d d) M) : G2 X f (.d (.int i)) (.d (.int j)) M Φ :=
  g2_mk ho fun B H v w ok a b => ⟨i, j, int_of a, int_of b, post_same ok (.d (hd _ _)) h⟩
theorem g2_I {f : Value → Value → Sem Value} {C : Int → Int → Prop} {g : Int → Int → V} (ho : OpR X f (rI C g)) {d : PyData} (hd : ∀ K H, Dp K H (g i j) d) (hc : C i j) (h : Φ (.d d) M) : G2 X f (.d (.int i)) (.d (.int j)) M Φ :=
  g2_mk ho fun B H v w ok a b => ⟨i, j, int_of a, int_of b, hc, post_same ok (.d (hd _ _)) h⟩
theorem g2_add (h : Φ (.d (.int (i + j))) M) : G2 X (binaryOp .Add) (.d (.int i)) (.d (.int j)) M Φ := g2_I0 op_add (fun _ _ => .int _) h
theorem g2_sub (h : Φ (.d (.int (i - j))) M) : G2 X (binaryOp .Sub) (.d (.int i)) (.d (.int j)) M Φ := g2_I0 op_sub (fun _ _ => .int _) h
theorem g2_mul (hc : CMulW i j) (h : Φ (.d (.int (i * j))) M) : G2 X (binaryOp .Mult) (.d (.int i)) (.d (.int j)) M Φ := g2_I op_mulW (fun _ _ => .int _) hc h
theorem g2_fdiv (hc : CDivW i j) (h : Φ (.d (.int (i / j))) M) : G2 X (binaryOp .FloorDiv) (.d (.int i)) (.d (.int j)) M Φ := g2_I op_fdivW (fun _ _ => .int _) hc h
theorem g2_mod (hc : 0 < j) (h : Φ (.d (.int (i % j))) M) : G2 X (binaryOp .Mod) (.d (.int i)) (.d (.int j)) M Φ := g2_I op_modN (fun _ _ => .int _) (by omega) (by rw [Int.fmod_eq_emod_of_nonneg i (by omega)]; exact h)
theorem g2_lt (h : Φ (.d (.bool (decide (i < j)))) M) : G2 X (compareOp .Lt) (.d (.int i)) (.d (.int j)) M Φ := g2_I0 op_lt (fun _ _ => .bl _) h
theorem g2_le (h : Φ (.d (.bool (decide (i ≤ j)))) M) : G2 X (compareOp .LtE) (.d (.int i)) (.d (.int j)) M Φ := g2_I0 op_le (fun _ _ => .bl _) h
theorem g2_gt (h : Φ (.d (.bool (decide (j < i)))) M) : G2 X (compareOp .Gt) (.d (.int i)) (.d (.int j)) M Φ := g2_I0 op_gt (fun _ _ => .bl _) h
theorem g2_ge (h : Φ (.d (.bool (decide (j ≤ i)))) M) : G2 X (compareOp .GtE) (.d (.int i)) (.d (.int j)) M Φ := g2_I0 op_ge (fun _ _ => .bl _) h
theorem dec_v {i j : Int} : decide (V.int i = V.int j) = decide (i = j) := by
  by_cases h : i = j
  · subst h; simp
  · rw [decide_eq_false h, decide_eq_false (fun q => h (V.int.inj q))]
theorem g2_eqI (h : Φ (.d (.bool (decide (i = j)))) M) : G2 X (compareOp .Eq) (.d (.int i)) (.d (.int j)) M Φ :=
  g2_mk op_eq fun B H v w ok a b => by
    rw [int_of a, int_of b]
    exact ⟨rfl, post_same ok (by rw [dec_v]; exact .d (.bl _)) h⟩
theorem g2_neI (h : Φ (.d (.bool (!decide (i = j)))) M) : G2 X (compareOp .NotEq) (.d (.int i)) (.d (.int j)) M Φ :=
  g2_mk op_ne fun B H v w ok a b => by
    rw [int_of a, int_of b]
    exact ⟨rfl, post_same ok (by rw [dec_v]; exact .d (.bl _)) h⟩
theorem g2_eqB {p q : Bool} (h : Φ (.d (.bool (decide (p = q)))) M) : G2 X (compareOp .Eq) (.d (.bool p)) (.d (.bool q)) M Φ :=
  g2_mk op_eq fun B H v w ok a b => by
    rw [bool_of a, bool_of b]
    refine ⟨rfl, post_same ok (r := .d (.bool (decide (p = q)))) ?_ h⟩
    have : decide (V.bl p = V.bl q) = decide (p = q) := by cases p <;> cases q <;> rfl
    rw [this]; exact .d (.bl _)
theorem g2_neB {p q : Bool} (h : Φ (.d (.bool (!decide (p = q)))) M) : G2 X (compareOp .NotEq) (.d (.bool p)) (.d (.bool q)) M Φ :=
  g2_mk op_ne fun B H v w ok a b => by
    rw [bool_of a, bool_of b]
    refine ⟨rfl, post_same ok (r := .d (.bool (!decide (p = q)))) ?_ h⟩
    have : decide (V.bl p = V.bl q) = decide (p = q) := by cases p <;> cases q <;> rfl
    rw [this]; exact .d (.bl _)
theorem dec_s {i j : Str} : decide (V.str i = V.str j) = decide (i = j) := by
  by_cases h : i = j
  · subst h; simp
  · rw [decide_eq_false h, decide_eq_false (fun q => h (V.str.inj q))]
theorem g2_eqS {i j : Str} (h : Φ (.d (.bool (decide (i = j)))) M) : G2 X (compareOp .Eq) (.d (.str i)) (.d (.str j)) M Φ :=
  g2_mk op_eq fun B H v w ok a b => by
    rw [str_of a, str_of b]
    exact ⟨rfl, post_same ok (by rw [dec_s]; exact .d (.bl _)) h⟩
theorem g2_neS {i j : Str} (h : Φ (.d (.bool (!decide (i = j)))) M) : G2 X (compareOp .NotEq) (.d (.str i)) (.d (.str j)) M Φ :=
  g2_mk op_ne fun B H v w ok a b => by
    rw [str_of a, str_of b]
    exact ⟨rfl, post_same ok (by rw [dec_s]; exact .d (.bl _)) h⟩
/-- == of data at any depth -/
theorem g2_eqD {d e : PyData} (hu : X.A.units + 64 < cLine) (sd : SeqAt.shaped d = true) (se : SeqAt.shaped e = true) (h : Φ (.d (.bool (PyData.eqv d e))) M) : G2 X (compareOp .Eq) (.d d) (.d e) M Φ :=
  g2_mk (op_eqD hu) fun B H v w ok a b => by
    cases a with
    | d a => cases b with
      | d b => exact ⟨d, e, dp_mono ok.ext _ a, dp_mono ok.ext _ b, sd, se, post_same ok (.d (.bl _)) h⟩
theorem g2_neD {d e : PyData} (hu : X.A.units + 64 < cLine) (sd : SeqAt.shaped d = true) (se : SeqAt.shaped e = true) (h : Φ (.d (.bool (!PyData.eqv d e))) M) : G2 X (compareOp .NotEq) (.d d) (.d e) M Φ :=
  g2_mk (op_neD hu) fun B H v w ok a b => by
    cases a with
    | d a => cases b with
      | d b => exact ⟨d, e, dp_mono ok.ext _ a, dp_mono ok.ext _ b, sd, se, post_same ok (.d (.bl _)) h⟩
end

/-! ## tests -/
theorem gt_cmp {a b : Expr} {op : CmpOp} {pos : Pos} {Ψ : Bool → Mem → Prop} (hm : behindInMarks op b = false)
    (ha : GE X a ρ M (fun x M1 => GE X b ρ M1 (fun y M2 => G2 X (compareOp op) x y M2 fun r M3 => ∃ c, r = .d (.bool c) ∧ Ψ c M3) Ξ) Ξ) : GT X (.Compare a [op] [b] pos) ρ M Ψ Ξ :=
  fun B H σ ok env tk => tS_of (pt_cmpR op_S pe_S pe_S hm) (eS_mono (two ha ok env tk) fun v H1 h1 => eS_mono h1 fun w H2 h2 => oS_mono h2 fun z H3 ⟨B', M', r, o, f, q, c, e, k⟩ => by
    subst e
    exact ⟨c, bool_of q, B', M', o, f, k⟩)
theorem gt_val {e : Expr} {Ψ : Bool → Mem → Prop} (hw : ∀ whole, isTrue e X.env whole = (do let v ← whole; standAt e.pos; holding [v] (truthy v))) (ha : GE X e ρ M (fun r M1 => ∃ c, r = .d (.bool c) ∧ Ψ c M1) Ξ) : GT X e ρ M Ψ Ξ :=
  fun B H σ ok env tk => tS_of (pt_val pe_S hw) (one ha ok env tk fun v H1 B1 M1 r o1 f1 q1 ⟨c, e, k⟩ => by
    subst e
    exact ⟨c, bool_of q1, B1, M1, o1, f1, k⟩)
theorem gt_not {a : Expr} {pos : Pos} {Ψ : Bool → Mem → Prop} (ha : GT X a ρ M (fun c M1 => Ψ (!c) M1) Ξ) : GT X (.UnaryOp .Not a pos) ρ M Ψ Ξ :=
  fun B H σ ok env tk => tS_of (pt_not pt_S) (tS_mono (ha B H σ ok env tk) fun c H1 ⟨B1, M1, o1, f1, k⟩ => ⟨B1, M1, o1, f1, k⟩)
theorem gt_w {e : Expr} {Ψ : Bool → Mem → Prop} (h : GW X e ρ M Ψ Ξ) : GT X e ρ M Ψ Ξ := fun B H σ ok env tk => tS_of (PW.pt pw_S) (h B H σ ok env tk)
theorem gw_and1 {a : Expr} {pos : Pos} {Ψ : Bool → Mem → Prop} (h : GT X a ρ M Ψ Ξ) : GW X (.BoolOp .And [a] pos) ρ M Ψ Ξ := fun B H σ ok env tk => wS_of (pw_and1 pt_S) (h B H σ ok env tk)
theorem gw_or1 {a : Expr} {pos : Pos} {Ψ : Bool → Mem → Prop} (h : GT X a ρ M Ψ Ξ) : GW X (.BoolOp .Or [a] pos) ρ M Ψ Ξ := fun B H σ ok env tk => wS_of (pw_or1 pt_S) (h B H σ ok env tk)
theorem postT_after {K : Frg} {B H B1 H1 : Hp} {M M1 : Mem} {Ψ : Bool → Mem → Prop} (f : Fr B H M B1 H1 M1) {b : Bool} {H' : Hp} : PostT K B1 H1 M1 Ψ b H' → PostT K B H M Ψ b H' := fun ⟨B', M', o, g, q⟩ => ⟨B', M', o, f.trans g, q⟩
theorem gw_and {a b : Expr} {rest : List Expr} {pos : Pos} {Ψ : Bool → Mem → Prop} (h : GT X a ρ M (fun c M1 => (c = true → GW X (.BoolOp .And (b :: rest) pos) ρ M1 Ψ Ξ) ∧ (c = false → Ψ false M1)) Ξ) : GW X (.BoolOp .And (a :: b :: rest) pos) ρ M Ψ Ξ :=
  fun B H σ ok env tk => wS_of (pw_and pt_S pw_S) (tS_mono (h B H σ ok env tk) fun c H1 ⟨B1, M1, o1, f1, k⟩ => by
    cases c with
    | true => exact wS_mono (k.1 rfl B1 H1 σ o1 (env_mono f1.ex env) (tk_after tk f1)) fun _ _ => postT_after f1
    | false => exact ⟨B1, M1, o1, f1, k.2 rfl⟩)
theorem gw_or {a b : Expr} {rest : List Expr} {pos : Pos} {Ψ : Bool → Mem → Prop} (h : GT X a ρ M (fun c M1 => (c = false → GW X (.BoolOp .Or (b :: rest) pos) ρ M1 Ψ Ξ) ∧ (c = true → Ψ true M1)) Ξ) : GW X (.BoolOp .Or (a :: b :: rest) pos) ρ M Ψ Ξ :=
  fun B H σ ok env tk => wS_of (pw_or pt_S pw_S) (tS_mono (h B H σ ok env tk) fun c H1 ⟨B1, M1, o1, f1, k⟩ => by
    cases c with
    | false => exact wS_mono (k.1 rfl B1 H1 σ o1 (env_mono f1.ex env) (tk_after tk f1)) fun _ _ => postT_after f1
    | true => exact ⟨B1, M1, o1, f1, k.2 rfl⟩)
/-! .. as values -/
theorem ge_one {op : BoolOp} {a : Expr} {pos : Pos} (h : GE X a ρ M Φ Ξ) : GE X (.BoolOp op [a] pos) ρ M Φ Ξ := fun B H σ ok env tk => eS_of (pe_one pe_S) (h B H σ ok env tk)
theorem ge_and {a b : Expr} {rest : List Expr} {pos : Pos} (h : GE X a ρ M (fun r M1 => ∃ c, r = .d (.bool c) ∧ (c = true → GE X (.BoolOp .And (b :: rest) pos) ρ M1 Φ Ξ) ∧ (c = false → Φ (.d (.bool false)) M1)) Ξ) : GE X (.BoolOp .And (a :: b :: rest) pos) ρ M Φ Ξ :=
  fun B H σ ok env tk => eS_of (pe_and pe_S pe_S) (one h ok env tk fun v H1 B1 M1 r o1 f1 q1 ⟨c, e, k⟩ => by
    subst e
    refine ⟨c, bool_of q1, ?_⟩
    cases c with
    | true => exact post_lift f1 (k.1 rfl B1 H1 σ o1 (env_mono f1.ex env) (tk_after tk f1))
    | false => exact ⟨B1, M1, _, o1, f1, .d (.bl false), k.2 rfl⟩)
theorem ge_or {a b : Expr} {rest : List Expr} {pos : Pos} (h : GE X a ρ M (fun r M1 => ∃ c, r = .d (.bool c) ∧ (c = false → GE X (.BoolOp .Or (b :: rest) pos) ρ M1 Φ Ξ) ∧ (c = true → Φ (.d (.bool true)) M1)) Ξ) : GE X (.BoolOp .Or (a :: b :: rest) pos) ρ M Φ Ξ :=
  fun B H σ ok env tk => eS_of (pe_or pe_S pe_S) (one h ok env tk fun v H1 B1 M1 r o1 f1 q1 ⟨c, e, k⟩ => by
    subst e
    refine ⟨c, bool_of q1, ?_⟩
    cases c with
    | false => exact post_lift f1 (k.1 rfl B1 H1 σ o1 (env_mono f1.ex env) (tk_after tk f1))
    | true => exact ⟨B1, M1, _, o1, f1, .d (.bl true), k.2 rfl⟩)
theorem ge_not {a : Expr} {pos : Pos} (h : GE X a ρ M (fun r M1 => ∃ c, r = .d (.bool c) ∧ Φ (.d (.bool (!c))) M1) Ξ) : GE X (.UnaryOp .Not a pos) ρ M Φ Ξ :=
  fun B H σ ok env tk => eS_of (pe_not pe_S) (one h ok env tk fun v H1 B1 M1 r o1 f1 q1 ⟨c, e, k⟩ => by
    subst e
    exact ⟨c, bool_of q1, B1, M1, _, o1, f1, .d (.bl _), k⟩)
theorem ge_if {c a b : Expr} {pos : Pos} (h : GT X c ρ M (fun k M1 => (k = true → GE X a ρ M1 Φ Ξ) ∧ (k = false → GE X b ρ M1 Φ Ξ)) Ξ) : GE X (.IfExp c a b pos) ρ M Φ Ξ :=
  fun B H σ ok env tk => eS_of (pe_ifExp pt_S pe_S pe_S) (tS_mono (h B H σ ok env tk) fun k H1 ⟨B1, M1, o1, f1, q⟩ => by
    cases k with
    | true => exact post_lift f1 (q.1 rfl B1 H1 σ o1 (env_mono f1.ex env) (tk_after tk f1))
    | false => exact post_lift f1 (q.2 rfl B1 H1 σ o1 (env_mono f1.ex env) (tk_after tk f1)))
/-- a < b < c -/
theorem ge_chain {a b c : Expr} {op op' : CmpOp} {pos : Pos} (hm : lastMarks [op, op'] [b, c] = false)
    (h : GE X a ρ M (fun x M1 => GE X b ρ M1 (fun y M2 => G2 X (compareOp op) x y M2 fun r M3 => ∃ k, r = .d (.bool k) ∧ (k = true → GE X c ρ M3 (fun z M4 => G2 X (compareOp op') y z M4 Φ) Ξ) ∧ (k = false → Φ (.d (.bool false)) M3)) Ξ) Ξ) :
    GE X (.Compare a [op, op'] [b, c] pos) ρ M Φ Ξ :=
  fun B H σ ok env tk => eS_of (pe_chain op_S op_S pe_S pe_S pe_S hm) (one h ok env tk fun v H1 B1 M1 r o1 f1 q1 hb => one hb o1 (env_mono f1.ex env) (tk_after tk f1) fun w H2 B2 M2 y o2 f2 q2 h2 =>
    oS_mono (h2 B2 H2 v w o2 (rv_mono f2.ex q1) q2) fun z H3 ⟨B3, M3, r3, o3, f3, q3, k, e, k1, k2⟩ => by
      subst e
      have f : Fr B H M B3 H3 M3 := (f1.trans f2).trans f3
      refine ⟨k, bool_of q3, ?_⟩
      cases k with
      | true => exact one (k1 rfl) o3 (env_mono f.ex env) (tk_after tk f) fun w4 H4 B4 M4 r4 o4 f4 q4 h4 => oS_mono (h4 B4 H4 w w4 o4 (rv_mono (f3.trans f4).ex q2) q4) fun _ _ => postE_after (f.trans f4)
      | false => exact ⟨B3, M3, _, o3, f, .d (.bl false), k2 rfl⟩)

/-! ## argument lists, displays, calls -/
theorem ga_nil {Ψ : List Rv → Mem → Prop} (h : Ψ [] M) : GA X [] ρ M Ψ Ξ := fun B H σ ok env tk => aS_of pa_nil ⟨B, M, [], ok, .refl, .nil, h⟩
theorem ga_cons {e : Expr} {es : List Expr} {Ψ : List Rv → Mem → Prop} (hs : starEach (e :: es) X.env = (false, eval e X.env) :: starEach es X.env)
    (h : GE X e ρ M (fun r M1 => GA X es ρ M1 (fun rs M2 => Ψ (r :: rs) M2) Ξ) Ξ) : GA X (e :: es) ρ M Ψ Ξ :=
  fun B H σ ok env tk => aS_of (pa_cons pe_S pa_S hs) (one h ok env tk fun v H1 B1 M1 r o1 f1 q1 ha => aS_mono (ha B1 H1 σ o1 (env_mono f1.ex env) (tk_after tk f1)) fun vs H2 ⟨B2, M2, rs, o2, f2, q2, k⟩ =>
    ⟨B2, M2, r :: rs, o2, f1.trans f2, .cons (rv_mono f2.ex q1) q2, k⟩)
theorem args {es : List Expr} {Ψ : List Rv → Mem → Prop} (ha : GA X es ρ M Ψ Ξ) {B H : Hp} {σ : Slots} (ok : Ok X.K B H M) (env : EnvOk X.K B σ ρ) (tk : Takes X (PostX X.K B H M Ξ))
    {Q : List V → Hp → Prop} (k : ∀ v H1 B1 M1 r, Ok X.K B1 H1 M1 → Fr B H M B1 H1 M1 → RvAll X.K B1 v r → Ψ r M1 → Q v H1) : aS X es σ H Q :=
  aS_mono (ha B H σ ok env tk) fun v H1 ⟨B1, M1, r, o1, f1, q1, p⟩ => k v H1 B1 M1 r o1 f1 q1 p
/-- a display that will not change -/
theorem ge_tup {es : List Expr} {k : Nat} {pos : Pos} (h : GA X es ρ M (fun rs M1 => ∃ ds : List PyData, rs = ds.map Rv.d ∧ ds.length ≤ sizeLine ∧ Φ (.d (.tuple ds)) M1) Ξ) : GE X (.Tuple es k pos) ρ M Φ Ξ :=
  fun B H σ ok env tk => eS_of (pe_tup pa_S) (args h ok env tk fun vs H1 B1 M1 rs o1 f1 q1 ⟨ds, e, z, k⟩ => by
    subst e
    refine ⟨by rw [q1.length, List.length_map]; exact z, fun p hp => postE_after f1 (post_frz o1 hp (.d (.tup (.of upd_same) (dpAll_mono (same_new (sub_none o1.ext hp)) _ q1.data))) k)⟩)
theorem ge_tupR {es : List Expr} {k : Nat} {pos : Pos} (h : GA X es ρ M (fun rs M1 => rs.length ≤ sizeLine ∧ Φ (.tup rs) M1) Ξ) : GE X (.Tuple es k pos) ρ M Φ Ξ :=
  fun B H σ ok env tk => eS_of (pe_tup pa_S) (args h ok env tk fun vs H1 B1 M1 rs o1 f1 q1 ⟨z, k⟩ => by
    refine ⟨by rw [q1.length]; exact z, fun p hp => postE_after f1 (post_frz o1 hp (.tup (.of upd_same) (rvAll_mono (same_new (sub_none o1.ext hp)) q1)) k)⟩)
theorem ge_lst {es : List Expr} {pos : Pos} (h : GA X es ρ M (fun rs M1 => ∃ ds : List PyData, rs = ds.map Rv.d ∧ ds.length ≤ sizeLine ∧ Φ (.d (.list ds)) M1) Ξ) : GE X (.List es pos) ρ M Φ Ξ :=
  fun B H σ ok env tk => eS_of (pe_lst pa_S) (args h ok env tk fun vs H1 B1 M1 rs o1 f1 q1 ⟨ds, e, z, k⟩ => by
    subst e
    refine ⟨by rw [q1.length, List.length_map]; exact z, fun p hp => postE_after f1 (post_frz o1 hp (.d (.lst (.of upd_same) (dpAll_mono (same_new (sub_none o1.ext hp)) _ q1.data))) k)⟩)
/-- a list display that may change -/
theorem ge_own {es : List Expr} {pos : Pos} (h : GA X es ρ M (fun rs M1 => rs.length ≤ sizeLine ∧ ∀ p, Φ (.cell p) ((p, Is rs) :: M1)) Ξ) : GE X (.List es pos) ρ M Φ Ξ :=
  fun B H σ ok env tk => eS_of (pe_lst pa_S) (args h ok env tk fun vs H1 B1 M1 rs o1 f1 q1 ⟨z, k⟩ => by
    refine ⟨by rw [q1.length]; exact z, fun p hp => postE_after f1 (post_own (P := Is rs) o1 hp q1 rfl (k p))⟩)
structure Bi (X : Cx) (x : Str) (v : Value) : Prop where
  m : X.mg x = none
  b : bootBuiltins x = some v
  n : x ≠ "__name__"
  d : (x == ("__debug__" : Str)) = false
theorem ge_callB {x : Str} {id : String} {e : Expr} {es : List Expr} {p pos : Pos} (hb : Bi X x (.builtin id)) (hg : Gl X x) (he : starEach (e :: es) X.env = (false, eval e X.env) :: starEach es X.env) (hpl : (backTo pos (starEach es X.env)).any (·.1) = false)
    (h : GA X (e :: es) ρ M (fun rs M1 => GC X (.builtin id) rs M1 Φ) Ξ) : GE X (.Call (.Name x p) (e :: es) [] pos) ρ M Φ Ξ :=
  fun B H σ ok env tk => eS_of (pe_callB call_S hg hb.m hb.b pa_S hb.n hb.d he hpl) (args h ok env tk fun vs H1 B1 M1 rs o1 f1 q1 k => cS_mono (k B1 H1 vs o1 q1) fun _ _ => postE_after f1)
theorem ge_callTy {x : Str} {id : String} {e : Expr} {es : List Expr} {p pos : Pos} (hb : Bi X x (.type id)) (hg : Gl X x) (he : starEach (e :: es) X.env = (false, eval e X.env) :: starEach es X.env) (hpl : (backTo pos (starEach es X.env)).any (·.1) = false)
    (h : GA X (e :: es) ρ M (fun rs M1 => GC X (.type id) rs M1 Φ) Ξ) : GE X (.Call (.Name x p) (e :: es) [] pos) ρ M Φ Ξ :=
  fun B H σ ok env tk => eS_of (pe_callTy call_S hg hb.m hb.b pa_S hb.n hb.d he hpl) (args h ok env tk fun vs H1 B1 M1 rs o1 f1 q1 k => cS_mono (k B1 H1 vs o1 q1) fun _ _ => postE_after f1)
theorem gc_mk {f : Value} {r : List V → Hp → VK → Prop} {xs : List Rv} (h : CallR X f r) (k : ∀ B H vs, Ok X.K B H M → RvAll X.K B vs xs → r vs H (PostE X.K B H M Φ)) : GC X f xs M Φ := fun B H vs ok a => cS_of h (k B H vs ok a)
end
end Dl

set_option Elab.async false
set_option linter.all false
set_option maxRecDepth 100000
set_option maxHeartbeats 4000000
namespace Dl
open PySem PySem.Spec PyProof.Rows L2
section
variable {X : Cx} {ρ : List Rv} {M : Mem} {Φ : Pst} {Ξ : Xi} {D : DE}

/-! ## targets -/
def gS (X : Cx) (tg : Expr) : TG := fun v σ H Q => ∀ (pins : List (Addr × Obj)) (s : Shared) (u : Value), Inv X pins σ H s → RelV v u →
  wpAny (model X.prog X.w) X.A (assign tg X.env u) (fun _ s' => ∃ σ' H', Inv X pins σ' H' s' ∧ Q σ' H') X.xe s
theorem pg_S {tg : Expr} : PG X tg (gS X tg) := ⟨fun pins s _ _ _ u _ I r h => h pins s u I r⟩
theorem gS_of {tg : Expr} {t : TG} (h : PG X tg t) {v : V} {σ : Slots} {H : Hp} {Q : Slots → Hp → Prop} (q : t v σ H Q) : gS X tg v σ H Q := fun pins s u I r => h.run pins s σ H v u Q I r q
theorem gS_mono {tg : Expr} {v : V} {σ : Slots} {H : Hp} {Q Q' : Slots → Hp → Prop} (h : gS X tg v σ H Q) (k : ∀ σ' H', Q σ' H' → Q' σ' H') : gS X tg v σ H Q' := fun pins s u I r =>
  thn (h pins s u I r) fun _ s' ⟨σ', H', I', q⟩ => ⟨σ', H', I', k _ _ q⟩
/-- a target takes a value; vs: the slots of a comprehension's own names (none else are stored, where vs is asked for) -/
def GG (X : Cx) (tg : Expr) (r : Rv) (ρ : List Rv) (M : Mem) (Ψ : List Rv → Mem → Prop) (vs : List Nat) : Prop :=
  ∀ B H σ v, Ok X.K B H M → EnvOk X.K B σ ρ → RvOk X.K B v r → gS X tg v σ H fun σ' H' => (vs ≠ [] → wipe σ' vs = wipe σ vs) ∧ PostN X.K B H M Ψ σ' H'
theorem postN_after {K : Frg} {B H B1 H1 : Hp} {M M1 : Mem} {Ψ : List Rv → Mem → Prop} (f : Fr B H M B1 H1 M1) {σ : Slots} {H' : Hp} : PostN K B1 H1 M1 Ψ σ H' → PostN K B H M Ψ σ H' :=
  fun ⟨B', M', r, o, g, e, q⟩ => ⟨B', M', r, o, f.trans g, e, q⟩
theorem postN_mono {K : Frg} {B H : Hp} {M : Mem} {Ψ Ψ' : List Rv → Mem → Prop} (h : ∀ r M', Ψ r M' → Ψ' r M') {σ : Slots} {H' : Hp} : PostN K B H M Ψ σ H' → PostN K B H M Ψ' σ H' :=
  fun ⟨B', M', r, o, g, e, q⟩ => ⟨B', M', r, o, g, e, h _ _ q⟩
theorem ends_after {K : Frg} {B H B1 H1 : Hp} {M M1 : Mem} (f : Fr B H M B1 H1 M1) : (∀ σ' H', (ends K B1 H1 M1 D).nx σ' H' → (ends K B H M D).nx σ' H') ∧ (∀ v H', (ends K B1 H1 M1 D).rt v H' → (ends K B H M D).rt v H') ∧
    (∀ σ' H', (ends K B1 H1 M1 D).bk σ' H' → (ends K B H M D).bk σ' H') ∧ (∀ σ' H', (ends K B1 H1 M1 D).ct σ' H' → (ends K B H M D).ct σ' H') :=
  ⟨fun _ _ => postN_after f, fun _ _ => postE_after f, fun _ _ => postN_after f, fun _ _ => postN_after f⟩
theorem sS_mono {st : Stmt} {σ : Slots} {H : Hp} {E E' : Ends} (h : sS X st E σ H) (k : (∀ σ' H', E.nx σ' H' → E'.nx σ' H') ∧ (∀ v H', E.rt v H' → E'.rt v H') ∧ (∀ σ' H', E.bk σ' H' → E'.bk σ' H') ∧ (∀ σ' H', E.ct σ' H' → E'.ct σ' H')) : sS X st E' σ H := fun pins s I =>
  thn (h pins s I) fun f s' q => by
    cases f with
    | next => obtain ⟨σ', H', I', q⟩ := q; exact ⟨σ', H', I', k.1 _ _ q⟩
    | brk => obtain ⟨σ', H', I', q⟩ := q; exact ⟨σ', H', I', k.2.2.1 _ _ q⟩
    | cont => obtain ⟨σ', H', I', q⟩ := q; exact ⟨σ', H', I', k.2.2.2 _ _ q⟩
    | ret u => obtain ⟨v, σ', H', I', r, q⟩ := q; exact ⟨v, σ', H', I', r, k.2.1 _ _ q⟩
theorem ssS_mono {st : List Stmt} {σ : Slots} {H : Hp} {E E' : Ends} (h : ssS X st E σ H) (k : (∀ σ' H', E.nx σ' H' → E'.nx σ' H') ∧ (∀ v H', E.rt v H' → E'.rt v H') ∧ (∀ σ' H', E.bk σ' H' → E'.bk σ' H') ∧ (∀ σ' H', E.ct σ' H' → E'.ct σ' H')) : ssS X st E' σ H := fun pins s I =>
  thn (h pins s I) fun f s' q => by
    cases f with
    | next => obtain ⟨σ', H', I', q⟩ := q; exact ⟨σ', H', I', k.1 _ _ q⟩
    | brk => obtain ⟨σ', H', I', q⟩ := q; exact ⟨σ', H', I', k.2.2.1 _ _ q⟩
    | cont => obtain ⟨σ', H', I', q⟩ := q; exact ⟨σ', H', I', k.2.2.2 _ _ q⟩
    | ret u => obtain ⟨v, σ', H', I', r, q⟩ := q; exact ⟨v, σ', H', I', r, k.2.1 _ _ q⟩
theorem wipe_set {σ : Slots} {i : Nat} {o : Option V} : ∀ {vs : List Nat}, i ∈ vs → wipe (σ.set i o) vs = wipe σ vs := by
  have key : ∀ (vs : List Nat), i ∉ vs → wipe (σ.set i o) vs = (wipe σ vs).set i o := by
    intro vs
    induction vs with
    | nil => intro _; rfl
    | cons a vs ih =>
      intro h
      have h1 : i ≠ a := fun e => h (by rw [e]; exact List.mem_cons_self)
      have h2 : i ∉ vs := fun e => h (List.mem_cons_of_mem _ e)
      show (wipe (σ.set i o) vs).set a none = ((wipe σ vs).set a none).set i o
      rw [ih h2, List.set_comm _ _ h1]
  intro vs
  induction vs with
  | nil => intro h; cases h
  | cons a vs ih =>
    intro h
    show (wipe (σ.set i o) vs).set a none = (wipe σ vs).set a none
    by_cases hm : i ∈ vs
    · rw [ih hm]
    · rcases List.mem_cons.mp h with h | h
      · subst h; rw [key vs hm, List.set_set]
      · exact absurd h hm
theorem gg_name {i : Nat} {x : Str} {pos : Pos} {r : Rv} {Ψ : List Rv → Mem → Prop} {vs : List Nat} (nd : X.N.Nodup) (hN : X.N[i]? = some x) (hl : L2.Loc X.env.scope x) (hf : X.fn x = true ∨ X.env.scope.names.lookup x = some .local) (hvs : vs = [] ∨ i ∈ vs)
    (h : Ψ (ρ.set i r) M) : GG X (.Name x pos) r ρ M Ψ vs := fun B H σ v ok env q =>
  gS_of (pg_name nd hN hl hf) ⟨fun hv => by
    rcases hvs with e | e
    · exact absurd e hv
    · exact wipe_set e, B, M, _, ok, .refl, env_set (.some q) i env, h⟩
/-- several targets -/
def GGs (X : Cx) (ts : List Expr) (rs : List Rv) (ρ : List Rv) (M : Mem) (Ψ : List Rv → Mem → Prop) (vs : List Nat) : Prop :=
  ∀ B H σ us, Ok X.K B H M → EnvOk X.K B σ ρ → RvAll X.K B us rs → ∃ t, PGs X ts t ∧ t us σ H fun σ' H' => (vs ≠ [] → wipe σ' vs = wipe σ vs) ∧ PostN X.K B H M Ψ σ' H'
theorem ggs_nil {Ψ : List Rv → Mem → Prop} {vs : List Nat} (h : Ψ ρ M) : GGs X [] [] ρ M Ψ vs := fun B H σ us ok env q => by
  cases q
  exact ⟨gNil, pgs_nil, rfl, fun _ => rfl, B, M, ρ, ok, .refl, env, h⟩
/-- all names -/
theorem ggs_cons {i : Nat} {x : Str} {pos : Pos} {ts : List Expr} {r : Rv} {rs : List Rv} {Ψ : List Rv → Mem → Prop} {vs : List Nat} (nd : X.N.Nodup) (hN : X.N[i]? = some x) (hl : L2.Loc X.env.scope x) (hf : X.fn x = true ∨ X.env.scope.names.lookup x = some .local) (hvs : vs = [] ∨ i ∈ vs)
    (he : (assignEach (.Name x pos :: ts) X.env).map (·.2) = assign (.Name x pos) X.env :: (assignEach ts X.env).map (·.2))
    (h : GGs X ts rs (ρ.set i r) M Ψ vs) : GGs X (.Name x pos :: ts) (r :: rs) ρ M Ψ vs := fun B H σ us ok env q => by
  cases q with
  | cons q qs =>
    rename_i v us
    obtain ⟨t, ht, k⟩ := h B H (σ.set i (some v)) us ok (env_set (.some q) i env) qs
    refine ⟨gCons (gName i) t, pgs_cons (pg_name nd hN hl hf) ht he, v, us, rfl, ?_⟩
    show t us (σ.set i (some v)) H _
    have e : ∀ σ' H', ((vs ≠ [] → wipe σ' vs = wipe (σ.set i (some v)) vs) ∧ PostN X.K B H M Ψ σ' H') = ((vs ≠ [] → wipe σ' vs = wipe σ vs) ∧ PostN X.K B H M Ψ σ' H') := fun σ' H' => by
      rcases hvs with e | e
      · subst e; simp
      · rw [wipe_set e]
    have e2 : (fun σ' H' => (vs ≠ [] → wipe σ' vs = wipe (σ.set i (some v)) vs) ∧ PostN X.K B H M Ψ σ' H') = (fun σ' H' => (vs ≠ [] → wipe σ' vs = wipe σ vs) ∧ PostN X.K B H M Ψ σ' H') := by
      funext σ' H'; exact e σ' H'
    rw [e2] at k
    exact k
theorem gg_tup {ts : List Expr} {k : Nat} {pos : Pos} {rs : List Rv} {r : Rv} {Ψ : List Rv → Mem → Prop} {vs : List Nat} (hc : X.calm = true) (hr : r = .tup rs ∨ ∃ ds : List PyData, r = .d (.tuple ds) ∧ rs = ds.map Rv.d)
    (hn : (assignEach ts X.env).length = rs.length) (hs : (assignEach ts X.env).findIdx? (·.1) = none) (h : GGs X ts rs ρ M Ψ vs) : GG X (.Tuple ts k pos) r ρ M Ψ vs := fun B H σ v ok env q => by
  obtain ⟨a, xs, rfl, hq, ha⟩ : ∃ a xs, v = .ref a ∧ SqT X.K B a xs ∧ RvAll X.K B xs rs := by
    rcases hr with rfl | ⟨ds, rfl, rfl⟩
    · cases q with | tup h1 h2 => exact ⟨_, _, rfl, h1, h2⟩
    · cases q with | d q => cases q with | tup h1 h2 => exact ⟨_, _, rfl, h1, RvAll.ofData h2⟩
  obtain ⟨t, ht, k⟩ := h B H σ xs ok env ha
  exact gS_of (pg_tup hc ht hn hs) ⟨a, xs, rfl, sq_mono ok.ext hq, ha.length, k⟩

/-! ## statements -/
theorem gs_asg {tg e : Expr} {pos : Pos} (h1 : swapsWithSole [tg] e pos.line X.env = pure false) (h2 : swappedStores [tg] e X.env = pure none) (h3 : (assignEach [tg] X.env).map (·.2) = [assign tg X.env])
    (h : GE X e ρ M (fun r M1 => GG X tg r ρ M1 D.nx []) D.xx) : GS X (.Assign [tg] e pos) ρ M D := fun B H σ ok env tk =>
  sS_of (ps_asg pe_S pg_S h1 h2 h3) (one h ok env tk fun v H1 B1 M1 r o1 f1 q1 k => gS_mono (k B1 H1 σ v o1 (env_mono f1.ex env) q1) fun σ' H' q => postN_after f1 q.2)
theorem gs_set {i : Nat} {x : Str} {e : Expr} {pos pos' : Pos} (hv : Var X i x) (nd : X.N.Nodup) (hs : swapsWith e (some (.Name x pos')) pos.line X.env = pure false)
    (h : GE X e ρ M (fun r M1 => D.nx (ρ.set i r) M1) D.xx) : GS X (.Assign [.Name x pos'] e pos) ρ M D := fun B H σ ok env tk =>
  sS_of (ps_set nd hv.n hv.l pe_S hs (.inl hv.f)) (one h ok env tk fun v H1 B1 M1 r o1 f1 q1 k => ⟨B1, M1, _, o1, f1, env_set (.some q1) i (env_mono f1.ex env), k⟩)
theorem gs_ret {e : Expr} {pos : Pos} (h : GE X e ρ M D.rt D.xx) : GS X (.Return (some e) pos) ρ M D := fun B H σ ok env tk => sS_of (ps_ret pe_S) (h B H σ ok env tk)
theorem gs_retN {pos : Pos} (h : D.rt (.d .none) M) : GS X (.Return none pos) ρ M D := fun B H σ ok env tk => sS_of ps_retN ⟨B, M, _, ok, .refl, .d .non, h⟩
theorem gs_expr {e : Expr} {pos : Pos} (hs : swapsWith e none pos.line X.env = pure false) (h : GE X e ρ M (fun _ M1 => D.nx ρ M1) D.xx) : GS X (.Expr e pos) ρ M D := fun B H σ ok env tk =>
  sS_of (ps_expr pe_S hs) (one h ok env tk fun v H1 B1 M1 r o1 f1 q1 k => ⟨B1, M1, ρ, o1, f1, env_mono f1.ex env, k⟩)
theorem gs_if {c : Expr} {a b : List Stmt} {pos : Pos} (h : GT X c ρ M (fun k M1 => (k = true → GSs X a ρ M1 D) ∧ (k = false → GSs X b ρ M1 D)) D.xx) : GS X (.If c a b pos) ρ M D := fun B H σ ok env tk =>
  sS_of (ps_if pt_S pss_S pss_S) (tS_mono (h B H σ ok env tk) fun k H1 ⟨B1, M1, o1, f1, q⟩ => by
    cases k with
    | true => exact ssS_mono (q.1 rfl B1 H1 σ o1 (env_mono f1.ex env) (tk_after tk f1)) (ends_after f1)
    | false => exact ssS_mono (q.2 rfl B1 H1 σ o1 (env_mono f1.ex env) (tk_after tk f1)) (ends_after f1))
theorem gss_nil (h : D.nx ρ M) : GSs X [] ρ M D := fun B H σ ok env tk => ssS_of pss_nil ⟨B, M, ρ, ok, .refl, env, h⟩
theorem gss_cons {st : Stmt} {rest : List Stmt} (h : GS X st ρ M { D with nx := fun ρ1 M1 => GSs X rest ρ1 M1 D }) : GSs X (st :: rest) ρ M D := fun B H σ ok env tk =>
  ssS_of (pss_cons ps_S pss_S) (sS_mono (h B H σ ok env tk) ⟨fun σ' H' ⟨B1, M1, ρ1, o1, f1, e1, k⟩ => ssS_mono (k B1 H' σ' o1 e1 (tk_after tk f1)) (ends_after f1), fun _ _ q => q, fun _ _ q => q, fun _ _ q => q⟩)
theorem gs_break {pos : Pos} (h : D.bk ρ M) : GS X (.Break pos) ρ M D := fun B H σ ok env tk => sS_of ps_break ⟨B, M, ρ, ok, .refl, env, h⟩
theorem gs_cont {pos : Pos} (h : D.ct ρ M) : GS X (.Continue pos) ρ M D := fun B H σ ok env tk => sS_of ps_continue ⟨B, M, ρ, ok, .refl, env, h⟩
theorem gs_pass {pos : Pos} (h : D.nx ρ M) : GS X (.Pass pos) ρ M D := fun B H σ ok env tk => sS_of ps_pass ⟨B, M, ρ, ok, .refl, env, h⟩
/-- a, b = e1, e2 -/
theorem gs_par {i j : Nat} {x y : Str} {a b : Expr} {px py pt pt2 pos : Pos} {kt k2 : Nat} (hx : Var X i x) (hy : Var X j y) (hc : X.calm = true) (nd : X.N.Nodup) (hij : i ≠ j) (lx : X.env.scope.names.lookup x = some .local) (ly : X.env.scope.names.lookup y = some .local)
    (hs : swappedStores [.Tuple [.Name x px, .Name y py] kt pt] (.Tuple [a, b] k2 pt2) X.env = pure (some [x, y])) (hw : swapsWithSole [.Tuple [.Name x px, .Name y py] kt pt] (.Tuple [a, b] k2 pt2) pos.line X.env = pure false)
    (h : GA X [a, b] ρ M (fun rs M1 => ∃ r q, rs = [r, q] ∧ D.nx ((ρ.set i r).set j q) M1) D.xx) : GS X (.Assign [.Tuple [.Name x px, .Name y py] kt pt] (.Tuple [a, b] k2 pt2) pos) ρ M D := fun B H σ ok env tk =>
  sS_of (ps_par hc nd hx.n hy.n hij lx ly pa_S hs hw) (args h ok env tk fun vs H1 B1 M1 rs o1 f1 q1 ⟨r, q, e, k⟩ => by
    subst e
    cases q1 with
    | cons q1 q2 => cases q2 with
      | cons q2 q3 => cases q3; exact ⟨_, _, rfl, B1, M1, _, o1, f1, env_set (.some q2) j (env_set (.some q1) i (env_mono f1.ex env)), k⟩)
/-- a list that will not change any more: a ghost step -/
theorem gss_freeze {st : List Stmt} {M1 M2 : Mem} {a : Addr} {ds : List PyData} {i : Nat} (hi : ρ[i]? = some (.cell a)) (h : GSs X st (ρ.set i (.d (.list ds))) (M1 ++ M2) D) : GSs X st ρ (M1 ++ (a, Is (ds.map Rv.d)) :: M2) D := fun B H σ ok env tk => by
  obtain ⟨xs, rs, hx, hP, o1, f1⟩ := ok_freeze ok
  have e : rs = ds.map Rv.d := hP
  subst e
  obtain ⟨v, hv, hr⟩ := env_get i env hi rfl
  cases hr
  have env1 : EnvOk X.K (upd B a (.lst xs)) σ (ρ.set i (.d (.list ds))) := by
    have q := env_set (B := upd B a (.lst xs)) (.some (v := .ref a) (.d (.lst (.of upd_same) (dpAll_mono f1.ex _ hx.data)))) i (env_mono f1.ex env)
    have hl : i < σ.length := (List.getElem?_eq_some_iff.mp hv).1
    have e : σ.set i (some (.ref a)) = σ := by
      refine List.ext_getElem? fun j => ?_
      by_cases hj : i = j
      · subst hj; rw [List.getElem?_set_self hl, hv]
      · rw [List.getElem?_set_ne hj]
    rw [e] at q
    exact q
  exact ssS_mono (h _ H σ o1 env1 (tk_after tk f1)) (ends_after f1)
/-- .. at a value -/
theorem ge_freeze {e : Expr} (h : GE X e ρ M (fun r M1 => ∃ a ds Ma Mb, r = .cell a ∧ M1 = Ma ++ (a, Is (ds.map Rv.d)) :: Mb ∧ Φ (.d (.list ds)) (Ma ++ Mb)) Ξ) : GE X e ρ M Φ Ξ := fun B H σ ok env tk =>
  one h ok env tk fun v H1 B1 M1 r o1 f1 q1 ⟨a, ds, Ma, Mb, e1, e2, k⟩ => by
    subst e1 e2
    cases q1
    obtain ⟨xs, rs, hx, hP, o2, f2⟩ := ok_freeze o1
    have e : rs = ds.map Rv.d := hP
    subst e
    exact ⟨_, _, _, o2, f1.trans f2, .d (.lst (.of upd_same) (dpAll_mono f2.ex _ hx.data)), k⟩

/-! ## for -/
def iS (X : Cx) (tg iter : Expr) : TI := fun σ H R => ∀ (pins : List (Addr × Obj)) (s : Shared), Inv X pins σ H s →
  wpAny (model X.prog X.w) X.A (eval iter X.env) (fun v s1 => wpAny (model X.prog X.w) X.A (pyIter v) (PIE X pins σ tg R) X.xe s1) X.xe s
theorem pi_S {tg iter : Expr} : PI X tg iter (iS X tg iter) := ⟨fun pins s _ _ _ I h => h pins s I⟩
theorem iS_of {tg iter : Expr} {w : TI} (h : PI X tg iter w) {σ : Slots} {H : Hp} {R : It → Hp → Prop} (q : w σ H R) : iS X tg iter σ H R := fun pins s I => h.run pins s σ H R I q
theorem iS_mono {tg iter : Expr} {σ : Slots} {H : Hp} {R R' : It → Hp → Prop} (h : iS X tg iter σ H R) (k : ∀ J H', R J H' → R' J H') : iS X tg iter σ H R' := fun pins s I =>
  thn (h pins s I) fun v s1 q => thn q fun itv s2 ⟨it, fp, tn, J, H', a, b, c, d, e, r⟩ => ⟨it, fp, tn, J, H', a, b, c, d, e, k _ _ r⟩
/-- one turn of a walk gives the item r -/
def Step (K : Frg) (B1 : Hp) (r : Rv) (x : V) (H H' : Hp) : Prop := ∀ B M, Ok K B H M → Same B1 B → ∃ B', Ok K B' H' M ∧ Fr B H M B' H' M ∧ RvOk K B' x r
def Source (X : Cx) (B H : Hp) (M : Mem) (Θ : List Rv → Mem → Prop) (J : It) (H1 : Hp) : Prop :=
  ∃ B1 M1 items, Ok X.K B1 H1 M1 ∧ Fr B H M B1 H1 M1 ∧ Θ items M1 ∧ Walk J items.length (fun H => Same B1 H) (fun i H x H' => ∀ r, items[i]? = some r → Step X.K B1 r x H H')
def GI (X : Cx) (tg iter : Expr) (ρ : List Rv) (M : Mem) (Θ : List Rv → Mem → Prop) (Ξ : Xi) : Prop :=
  ∀ B H σ, Ok X.K B H M → EnvOk X.K B σ ρ → Takes X (PostX X.K B H M Ξ) → iS X tg iter σ H (Source X B H M Θ)
/-- the turns of a for -/
def ForD (X : Cx) (tg : Expr) (body : List Stmt) (D : DE) : List Rv → List Rv → Mem → Prop
  | [], ρ, M => D.nx ρ M
  | r :: rs, ρ, M => GG X tg r ρ M (fun ρ2 M2 => GSs X body ρ2 M2 { D with nx := ForD X tg body D rs, ct := ForD X tg body D rs, bk := D.nx }) []
theorem forD_at {tg : Expr} {body : List Stmt} : ∀ (items : List Rv) (i : Nat) (r : Rv), items[i]? = some r → ∀ ρ' M', ForD X tg body D (items.drop i) ρ' M' →
    GG X tg r ρ' M' (fun ρ2 M2 => GSs X body ρ2 M2 { D with nx := ForD X tg body D (items.drop (i + 1)), ct := ForD X tg body D (items.drop (i + 1)), bk := D.nx }) [] := by
  intro items i r h ρ' M' q
  have hl := (List.getElem?_eq_some_iff.mp h).1
  rw [List.drop_eq_getElem_cons hl] at q
  have e : items[i] = r := (List.getElem?_eq_some_iff.mp h).2
  rw [e] at q
  exact q
theorem gs_for {tg iter : Expr} {body : List Stmt} {pos : Pos} (hp : PassesOwn (model X.prog X.w) X.A X.env X.xe) (hc : X.calm = true) (hf : ∀ x, foldedSetIterable iter X.env x = pure x)
    (h : GI X tg iter ρ M (fun items M1 => ForD X tg body D items ρ M1) D.xx) : GS X (.For tg iter body [] pos) ρ M D := fun B H σ ok env tk => by
  refine sS_of (ps_for hp hc pi_S pg_S pss_S hf) ?_
  refine iS_mono (h B H σ ok env tk) fun J H1 ⟨B1, M1, items, o1, f1, hF, w⟩ => ?_
  refine for_it w (fun i σ' H' => PostN X.K B1 H1 M1 (ForD X tg body D (items.drop i)) σ' H') ⟨B1, M1, ρ, o1, .refl, env_mono f1.ex env, hF⟩ (fun i σ' H' _ ⟨B2, M2, ρ2, o2, f2, _, _⟩ => f2.ex.trans o2.ext)
    (fun i x σ' H2 H3 hi ⟨B2, M2, ρ2, o2, f2, e2, k⟩ y => ?_) (fun σ' H' q => ?_)
  · obtain ⟨r, hr⟩ : ∃ r, items[i]? = some r := ⟨items[i], by simp [hi]⟩
    obtain ⟨B3, o3, f3, q3⟩ := y r hr B2 M2 o2 f2.ex
    refine gS_mono (forD_at items i r hr ρ2 M2 k B3 H3 σ' x o3 (env_mono f3.ex e2) q3) fun σ4 H4 ⟨_, B4, M4, ρ4, o4, f4, e4, k4⟩ => ?_
    have f14 : Fr B1 H1 M1 B4 H4 M4 := (f2.trans f3).trans f4
    refine ssS_mono (k4 B4 H4 σ4 o4 e4 (tk_after tk (f1.trans f14))) ⟨fun _ _ => postN_after f14, fun _ _ => postE_after (f1.trans f14), fun _ _ => postN_after (f1.trans f14), fun _ _ => postN_after f14⟩
  · rw [List.drop_length] at q
    exact postN_after f1 q
theorem forD_map {α : Type} {tg : Expr} {body : List Stmt} {xs : List α} {g : α → Rv} (Iv : List α → List Rv → Mem → Prop) (h0 : Iv [] ρ M)
    (hs : ∀ pre x post ρ' M', xs = pre ++ x :: post → Iv pre ρ' M' → GG X tg (g x) ρ' M' (fun ρ2 M2 => GSs X body ρ2 M2 { D with nx := Iv (pre ++ [x]), ct := Iv (pre ++ [x]), bk := D.nx }) [])
    (hd : ∀ ρ' M', Iv xs ρ' M' → D.nx ρ' M') : ForD X tg body D (xs.map g) ρ M := by
  have main : ∀ (post pre : List α) ρ' M', xs = pre ++ post → Iv pre ρ' M' → ForD X tg body D (post.map g) ρ' M' := by
    intro post
    induction post with
    | nil => intro pre ρ' M' e q; rw [List.append_nil] at e; subst e; exact hd _ _ q
    | cons x post ih =>
      intro pre ρ' M' e q
      show GG _ _ _ _ _ _ _
      have k := hs pre x post ρ' M' e q
      intro B H σ v ok env r
      refine gS_mono (k B H σ v ok env r) fun σ' H' ⟨w, B2, M2, ρ2, o2, f2, e2, k2⟩ => ⟨w, B2, M2, ρ2, o2, f2, e2, ?_⟩
      intro B3 H3 σ3 o3 e3 t3
      refine ssS_mono (k2 B3 H3 σ3 o3 e3 t3) ⟨fun _ _ => postN_mono fun r M' z => ih (pre ++ [x]) r M' (by rw [e]; simp) z, fun _ _ z => z, fun _ _ z => z, fun _ _ => postN_mono fun r M' z => ih (pre ++ [x]) r M' (by rw [e]; simp) z⟩
  exact main xs [] ρ M rfl h0
/-! ### what is walked -/
theorem step_same {K : Frg} {B1 : Hp} {r : Rv} {x : V} {H : Hp} (h : RvOk K B1 x r) : Step K B1 r x H H := fun B M ok s => ⟨B, ok, .refl, rv_mono s h⟩
theorem gi_data {tg iter : Expr} {Θ : List Rv → Mem → Prop} (h : GE X iter ρ M (fun r M1 => ∃ ds, r = .d (.list ds) ∧ Θ (ds.map Rv.d) M1) Ξ) : GI X tg iter ρ M Θ Ξ := fun B H σ ok env tk =>
  iS_of (pi_list pe_S) (one h ok env tk fun v H1 B1 M1 r o1 f1 q1 ⟨ds, e, k⟩ => by
    subst e
    cases q1 with
    | d q1 => cases q1 with
      | lst hs ha =>
        rename_i a xs
        refine ⟨a, rfl, ⟨xs, o1.ext.seq hs⟩, B1, M1, _, o1, f1, k, ?_⟩
        rw [List.length_map, ← DpAll.len ha]
        refine walk_list.mono (fun H' s => s.seq hs) fun i H2 x H3 hi s y r hr => ?_
        obtain ⟨e3, hx⟩ := y
        subst e3
        rw [List.getElem?_map] at hr
        cases hd : ds[i]? with
        | none => rw [hd] at hr; cases hr
        | some d =>
          rw [hd] at hr; cases hr
          obtain ⟨v, h1, h2⟩ := DpAll.get i d ha hd
          rw [hx] at h1; cases h1
          exact step_same (.d h2))
theorem gi_tup {tg iter : Expr} {Θ : List Rv → Mem → Prop} (h : GE X iter ρ M (fun r M1 => ∃ ds, r = .d (.tuple ds) ∧ Θ (ds.map Rv.d) M1) Ξ) : GI X tg iter ρ M Θ Ξ := fun B H σ ok env tk =>
  iS_of (pi_tup pe_S) (one h ok env tk fun v H1 B1 M1 r o1 f1 q1 ⟨ds, e, k⟩ => by
    subst e
    cases q1 with
    | d q1 => cases q1 with
      | tup hs ha =>
        rename_i a xs
        refine ⟨a, rfl, ⟨xs, sq_mono o1.ext hs⟩, B1, M1, _, o1, f1, k, ?_⟩
        rw [List.length_map, ← DpAll.len ha]
        refine walk_tup.mono (fun H' s => sq_mono s hs) fun i H2 x H3 hi s y r hr => ?_
        obtain ⟨e3, hx⟩ := y
        subst e3
        rw [List.getElem?_map] at hr
        cases hd : ds[i]? with
        | none => rw [hd] at hr; cases hr
        | some d =>
          rw [hd] at hr; cases hr
          obtain ⟨v, h1, h2⟩ := DpAll.get i d ha hd
          rw [hx] at h1; cases h1
          exact step_same (.d h2))
theorem gi_range1 {tg a : Expr} {p pos : Pos} {Θ : List Rv → Mem → Prop} (hb : X.mg "range" = none) (hg : Gl X "range") (hs : starEach [a] X.env = [(false, eval a X.env)])
    (h : GA X [a] ρ M (fun rs M1 => ∃ j : Int, rs = [.d (.int j)] ∧ -(2 ^ 62) ≤ j ∧ j < 2 ^ 62 ∧ Θ ((List.range j.toNat).map fun i => .d (.int (i : Nat))) M1) Ξ) : GI X tg (.Call (.Name "range" p) [a] [] pos) ρ M Θ Ξ := fun B H σ ok env tk =>
  iS_of (pi_range1 hg hb pa_S hs) (args h ok env tk fun vs H1 B1 M1 rs o1 f1 q1 ⟨j, e, hj1, hj2, k⟩ => by
    subst e
    cases q1 with
    | cons q q' =>
      cases q'
      refine ⟨j, by rw [int_of q], hj1, hj2, B1, M1, _, o1, f1, k, ?_⟩
      rw [List.length_map, List.length_range]
      refine walk_range.mono (fun _ _ => trivial) fun i H2 x H3 hi s y r hr => ?_
      obtain ⟨e3, hx⟩ := y
      subst e3 hx
      rw [List.getElem?_map, List.getElem?_range hi] at hr
      cases hr
      exact step_same (by show RvOk X.K B1 (V.int (0 + (i : Int))) _; rw [Int.zero_add]; exact .d (.int _)))
theorem pairStep {K : Frg} {B1 : Hp} {p q : Rv} {dp dq : PyData} {x y : V} {H : Hp} {T : Addr} (hT : H T = none) (hx : Dp K B1 x dp) (hy : Dp K B1 y dq) : Step K B1 (.d (.tuple [dp, dq])) (.ref T) H (upd H T (.tup [x, y])) := fun B M ok s => by
  have f := ok_frz (o := .tup [x, y]) ok hT
  exact ⟨_, f.1, f.2, .d (.tup (.of upd_same) (.cons (dp_mono (s.trans f.2.ex) _ hx) (.cons (dp_mono (s.trans f.2.ex) _ hy) .nil)))⟩
theorem gi_zip {e e2 : Expr} {p pos tpos : Pos} {elts : List Expr} {kk : Nat} {Θ : List Rv → Mem → Prop} (hb : X.mg "zip" = none) (hg : Gl X "zip") (hs : starEach [e, e2] X.env = (false, eval e X.env) :: starEach [e2] X.env) (hpl : (backTo pos (starEach [e2] X.env)).any (·.1) = false)
    (h : GA X [e, e2] ρ M (fun rs M1 => ∃ xs ys, rs = [.d (.list xs), .d (.list ys)] ∧ Θ ((xs.zip ys).map fun p => .d (.tuple [p.1, p.2])) M1) Ξ) : GI X (.Tuple elts kk tpos) (.Call (.Name "zip" p) [e, e2] [] pos) ρ M Θ Ξ := fun B H σ ok env tk =>
  iS_of (pi_zip hg hb pa_S hs hpl) (args h ok env tk fun vs H1 B1 M1 rs o1 f1 q1 ⟨ds, es, e, k⟩ => by
    subst e
    cases q1 with
    | cons q q' => cases q' with
      | cons q2 q3 =>
        cases q3
        cases q with
        | d q => cases q with
          | lst ha hda => cases q2 with
            | d q2 => cases q2 with
              | lst hb hdb =>
                rename_i a xs b ys
                refine ⟨a, b, xs, ys, rfl, o1.ext.seq ha, o1.ext.seq hb, B1, M1, _, o1, f1, k, ?_⟩
                rw [List.length_map, List.length_zip, ← DpAll.len hda, ← DpAll.len hdb]
                refine (walk_zip rfl).mono (fun H' s => ⟨s.seq ha, s.seq hb⟩) fun i H2 x H3 hi s y r hr => ?_
                obtain ⟨T, x1, y1, ev, hT, e3, h1, h2⟩ := y
                subst ev e3
                have l1 : i < ds.length := by rw [← DpAll.len hda]; omega
                have l2 : i < es.length := by rw [← DpAll.len hdb]; omega
                have hr' : r = .d (.tuple [ds[i], es[i]]) := by
                  rw [List.getElem?_map, List.getElem?_eq_getElem (by rw [List.length_zip]; omega), List.getElem_zip] at hr
                  exact (Option.some.inj hr).symm
                subst hr'
                obtain ⟨v1, g1, k1⟩ := DpAll.get i ds[i] hda (List.getElem?_eq_getElem l1)
                obtain ⟨v2, g2, k2⟩ := DpAll.get i es[i] hdb (List.getElem?_eq_getElem l2)
                cases (show some x1 = some v1 from h1.symm.trans g1)
                cases (show some y1 = some v2 from h2.symm.trans g2)
                exact pairStep (p := .any) (q := .any) hT k1 k2)
theorem gi_enum {e : Expr} {p pos tpos : Pos} {elts : List Expr} {kk : Nat} {Θ : List Rv → Mem → Prop} (hb : X.mg "enumerate" = none) (hg : Gl X "enumerate") (hs : starEach [e] X.env = [(false, eval e X.env)])
    (h : GA X [e] ρ M (fun rs M1 => ∃ xs, rs = [.d (.list xs)] ∧ Θ (xs.zipIdx.map fun p => .d (.tuple [.int (p.2 : Nat), p.1])) M1) Ξ) : GI X (.Tuple elts kk tpos) (.Call (.Name "enumerate" p) [e] [] pos) ρ M Θ Ξ := fun B H σ ok env tk =>
  iS_of (pi_enum hg hb pa_S hs) (args h ok env tk fun vs H1 B1 M1 rs o1 f1 q1 ⟨ds, e, k⟩ => by
    subst e
    cases q1 with
    | cons q q' =>
      cases q'
      cases q with
      | d q => cases q with
        | lst ha hda =>
          rename_i a xs
          refine ⟨a, xs, rfl, o1.ext.seq ha, B1, M1, _, o1, f1, k, ?_⟩
          rw [List.length_map, List.length_zipIdx, ← DpAll.len hda]
          refine walk_enum.mono (fun H' s => s.seq ha) fun i H2 x H3 hi s y r hr => ?_
          obtain ⟨T, x1, y1, ev, hT, e3, h1, h2⟩ := y
          subst ev e3
          have l1 : i < ds.length := by rw [← DpAll.len hda]; omega
          have hr' : r = .d (.tuple [.int (i : Nat), ds[i]]) := by
            rw [List.getElem?_map, List.getElem?_zipIdx, List.getElem?_eq_getElem l1] at hr
            simpa using (Option.some.inj hr).symm
          subst hr'
          obtain ⟨v1, g1, k1⟩ := DpAll.get i ds[i] hda (List.getElem?_eq_getElem l1)
          cases (show some y1 = some v1 from h2.symm.trans g1)
          cases (show some (V.int (i : Nat)) = some x1 from h1)
          exact pairStep (p := .any) (q := .any) hT (.int _) k1)
end
end Dl

set_option Elab.async false
set_option linter.all false
set_option maxRecDepth 100000
set_option maxHeartbeats 4000000
namespace Dl
open PySem PySem.Spec PyProof.Rows L2

/-! ## what a def promises -/
abbrev Prom := List Rv → Mem → Pst → (EV → Mem → Prop) → Prop
def PostF (K : Frg) (B H : Hp) (M : Mem) (Ξ : EV → Mem → Prop) : XK := fun cls d H' => ∃ B' M' x, Ok K B' H' M' ∧ Fr B H M B' H' M' ∧ EvOk K B' H' x cls d ∧ Ξ x M'
def SpD (K : Frg) (pd : Prom) : Sp := fun vs H Q E => ∃ B M rs Φ Ξ, Ok K B H M ∧ RvAll K B vs rs ∧ pd rs M Φ Ξ ∧ (∀ v H', PostE K B H M Φ v H' → Q v H') ∧ ∀ cls d H', PostF K B H M Ξ cls d H' → E cls d H'
structure FnD (P : Program) (w : World) (K : Frg) (mg : Str → Option Value) (base : Heap) (k : Nat) (f : Addr) (fd : FuncData) (ps : List Str) (pd : Prom) : Prop where
  len : ∀ rs M Φ Ξ, pd rs M Φ Ξ → rs.length = ps.length
  run : ∀ (A : Around) (outer : List Env) (s : Shared) (H : Hp) (ar : Args) (us : List Value) (vs : List V) (Q : VK) (E : XK), Room k A → A.guards = some [] → Env0 P w K mg base A outer s H →
    BindsTo s fd ar (ps.zip us) → Vals vs us → SpD K pd vs H Q E → codeAny (model P w) A (.call (.ref f) ar) (CR (L2.CX P w) outer P w H s Q E) s
theorem FnD.mono {P : Program} {w : World} {K : Frg} {mg : Str → Option Value} {base : Heap} {j k : Nat} {f : Addr} {fd : FuncData} {ps : List Str} {pd : Prom} (F : FnD P w K mg base j f fd ps pd) (h : j ≤ k) : FnD P w K mg base k f fd ps pd :=
  ⟨F.len, fun A outer s H ar us vs Q E hr => F.run A outer s H ar us vs Q E (hr.mono h)⟩
/-- what the body's walk is given -/
structure Cxt (X : Cx) (N : List Str) (sc : Scope) : Prop where
  hN : X.N = N
  sc : X.env.scope = sc
  nd : X.N.Nodup
  calm : X.calm = true
  fn : ∀ x, X.fn x = true
  hs : X.stack = X.env :: X.outer
  hf : X.env.frame = some X.env.locals
  pass : PassesOwn (model X.prog X.w) X.A X.env X.xe
  gu : X.A.guards = some []
theorem env_of_all {K : Frg} {B : Hp} : ∀ {vs : List V} {rs : List Rv} (h : RvAll K B vs rs), EnvOk K B (vs.map some) rs
  | _, _, .nil => .nil
  | _, _, .cons h a => .cons (.some h) (env_of_all a)
theorem env_append {K : Frg} {B : Hp} : ∀ {σ τ : Slots} {ρ κ : List Rv}, EnvOk K B σ ρ → EnvOk K B τ κ → EnvOk K B (σ ++ τ) (ρ ++ κ)
  | _, _, _, _, .nil, h => h
  | _, _, _, _, .cons h a, b => .cons h (env_append a b)
theorem env_blank {K : Frg} {B : Hp} : ∀ (ex : List Rv), (ex.all Rv.isAny) = true → EnvOk K B (List.replicate ex.length none) ex
  | [], _ => .nil
  | r :: ex, h => by
    rw [List.all_cons, Bool.and_eq_true] at h
    refine .cons ?_ (env_blank ex h.2)
    cases r with
    | any => exact .none1
    | mu => exact .none2
    | d _ => cases h.1
    | cell _ => cases h.1
    | tup _ => cases h.1
    | raw _ => cases h.1
section
variable {P : Program} {w : World} {K : Frg} {mg : Str → Option Value} {base : Heap}
/-- THE RULE for a def: from its body's walk -/
theorem Fun.okD {x qual : Str} {st : Stmt} {f : Addr} {fd : FuncData} {N ps : List Str} {k : Nat} {pd : Prom} (ex : List Rv) (F : L2.Fun K x qual st f fd) (S : FnScope N ps (defScope st))
    (hex : ex.length = N.length - ps.length) (hany : ex.all Rv.isAny = true) (len : ∀ rs M Φ Ξ, pd rs M Φ Ξ → rs.length = ps.length)
    (hbody : ∀ X : Cx, X.prog = P → X.w = w → X.K = K → X.mg = mg → X.base = base → Cxt X N (defScope st) → Room k X.A → ∀ rs M Φ Ξ, pd rs M Φ Ξ →
      GSs X (defBody st) (rs ++ ex) M { nx := fun _ M' => Φ (.d .none) M', rt := Φ, xx := fun x _ M' => Ξ x M' }) : FnD P w K mg base (k + 1) f fd ps pd := by
  obtain ⟨oc, od, kV, doc, pm, an, cdv, ct, osl, rfl, lk, hcd⟩ := F.ex
  refine ⟨len, fun A outer s H ar us vs Q E hr hgu e0 hb r hsp => ?_⟩
  obtain ⟨B, M, rs, Φ, Ξ, ok, ra, hpd, hQ, hE⟩ := hsp
  have hl : vs.length = ps.length := ra.length.trans (len _ _ _ _ hpd)
  have inH : K.In s.heap := e0.mod.kin.keeps fun b o e => (e0.bs b o e).1
  have lim : s.heap.NoLimit := e0.mod.nolimit.keeps fun b o e => (e0.bs b o e).1
  refine codeAny_call_function hr.depth (inH _ _ lk) rfl S.co S.gen rfl (PySem.W.codeRec_of inH hcd) (hb _ _ _ _ ?_)
  refine wpAny_newFunctionEnv_cells S.kind (fun y hy => ?_) fun env he s1 xx => ?_
  · rcases S.par y.1 (List.of_mem_zip hy).1 with q | q
    · exact .inl q
    · exact .inr ⟨q, PySem.W.cellsFrom_some _ _ _ (.inl q)⟩
  subst he
  refine ⟨lim.keeps xx.toInCall.keep, codeAny_func ?_⟩
  have I := inv_start (CX := L2.CX P w) (mg := mg) (base := base) (E := E) S hr.hd e0 hl r xx
  let X : Cx := cxOf (L2.CX P w) P w K mg base N qual (defScope st) f cdv A outer s H E
  have cx : Cxt X N (defScope st) := ⟨rfl, rfl, S.nd, rfl, fun _ => rfl, rfl, rfl, passes_of rfl, hgu⟩
  have tk : Takes X (PostX K B H M (fun x _ M' => Ξ x M')) := (takes_of (X := X) (E := E) rfl rfl rfl rfl).imp fun c d σ H' ⟨B', M', ρ', x, o, f, e, v, q⟩ => hE c d H' ⟨B', M', x, o, f, v, q⟩
  have env0 : EnvOk K B (L2.start N vs) (rs ++ ex) := by
    refine env_append (env_of_all ra) ?_
    rw [hl, ← hex]
    exact env_blank ex hany
  have run := hbody X rfl rfl rfl rfl rfl cx (hr.deeper _) rs M Φ Ξ hpd B H (L2.start N vs) ok env0 tk [] s1 I
  refine wpAny_mono run (fun fl s' hs => ?_) fun e s' hs => hs
  have fin : ∀ {σ' : Slots} {H' : Hp} {v : V} {u : Value}, Inv X [] σ' H' s' → RelV v u → Q v H' → CE outer P w H s Q u s' := fun J rv q => ⟨_, _, J.os, J.bare, J.base, J.hok, rv, q⟩
  cases fl with
  | ret u => exact let ⟨v, σ', H', J, rv, q⟩ := hs; fin J rv (hQ _ _ q)
  | next => exact let ⟨σ', H', J, B', M', ρ', o, g, e, q⟩ := hs; fin (v := V.non) (u := Value.none) J rfl (hQ _ _ ⟨B', M', .d .none, o, g, .d .non, q⟩)
  | brk => exact let ⟨_, _, _, _, _, _, _, _, _, q⟩ := hs; q.elim
  | cont => exact let ⟨_, _, _, _, _, _, _, _, _, q⟩ := hs; q.elim
end

/-! ## calls -/
section
variable {X : Cx} {ρ : List Rv} {M : Mem} {Φ : Pst} {Ξ : Xi} {D : DE}
/-- the keywords' values in the parameters' order -/
def pick {α : Type} (ks ps : List Str) (ws : List α) : List α := ps.filterMap fun p => (ks.zip ws).lookup p
/-- a def that may be called by the name x; ord: the orders of keywords in which it is called -/
structure Def (X : Cx) (x : Str) (k : Nat) (ps : List Str) (ord : List (List Str)) (pd : Prom) : Prop where
  ex : ∃ f fd, FnD X.prog X.w X.K X.mg X.base k f fd ps pd ∧ X.mg x = some (.ref f) ∧ PySem.W.keepIn X.K (.ref f) = true ∧
    (∀ us : List Value, us.length = ps.length → bindArgs fd ⟨us, []⟩ = pure (ps.zip us)) ∧
    ∀ ks ∈ ord, ∀ ws : List Value, ws.length = ks.length → bindArgs fd ⟨[], ks.zip ws⟩ = pure (ps.zip (pick ks ps ws))
  d : (x == ("__debug__" : Str)) = false
theorem Def.mono {x : Str} {j k : Nat} {ps : List Str} {ord : List (List Str)} {pd : Prom} (d : Def X x j ps ord pd) (h : j ≤ k) : Def X x k ps ord pd :=
  ⟨let ⟨f, fd, F, r⟩ := d.ex; ⟨f, fd, F.mono h, r⟩, d.d⟩
theorem lookup_rel {α β : Type} {R : α → β → Prop} (p : Str) : ∀ {ks : List Str} {xs : List α} {ys : List β}, Paired R xs ys → (∀ y, (ks.zip ys).lookup p = some y → ∃ x, (ks.zip xs).lookup p = some x ∧ R x y) ∧ ((ks.zip ys).lookup p = none → (ks.zip xs).lookup p = none)
  | [], _, _, _ => ⟨fun _ h => by simp at h, fun _ => rfl⟩
  | k :: ks, _, _, .nil => ⟨fun _ h => by simp at h, fun _ => rfl⟩
  | k :: ks, _, _, .cons (a := x) (b := y) r t => by
    have ih := lookup_rel p (ks := ks) t
    rw [List.zip_cons_cons, List.zip_cons_cons, List.lookup_cons, List.lookup_cons]
    cases e : p == k with
    | true => exact ⟨fun z h => ⟨_, rfl, by cases h; exact r⟩, fun h => by cases h⟩
    | false => exact ih
theorem pick_rel {α β : Type} {R : α → β → Prop} {ks : List Str} {xs : List α} {ys : List β} (h : Paired R xs ys) : ∀ ps : List Str, Paired R (pick ks ps xs) (pick ks ps ys)
  | [] => .nil
  | p :: ps => by
    have ih := pick_rel (ks := ks) h ps
    have l := lookup_rel p (ks := ks) h
    unfold pick at ih ⊢
    rw [List.filterMap_cons, List.filterMap_cons]
    cases e : (ks.zip ys).lookup p with
    | none => rw [l.2 e]; exact ih
    | some y =>
      obtain ⟨x, e2, r⟩ := l.1 y e
      rw [e2]
      exact .cons r ih
theorem RvAll.pair {K : Frg} {B : Hp} : ∀ {vs : List V} {rs : List Rv}, RvAll K B vs rs → Paired (RvOk K B) vs rs
  | _, _, .nil => .nil
  | _, _, .cons h a => .cons h (RvAll.pair a)
theorem RvAll.ofPair {K : Frg} {B : Hp} : ∀ {vs : List V} {rs : List Rv}, Paired (RvOk K B) vs rs → RvAll K B vs rs
  | _, _, .nil => .nil
  | _, _, .cons h a => .cons h (RvAll.ofPair a)
theorem run_D {pins : List (Addr × Obj)} {σ : Slots} {B H : Hp} {s : Shared} {k : Nat} {f : Addr} {fd : FuncData} {ps : List Str} {pd : Prom} {ar : Args} {us : List Value} {vs : List V} {rs : List Rv} (F : FnD X.prog X.w X.K X.mg X.base k f fd ps pd) (hr : Room k X.A) (hg : X.A.guards = some [])
    (hb : BindsTo s fd ar (ps.zip us)) (I : Inv X pins σ H s) (ok : Ok X.K B H M) (env : EnvOk X.K B σ ρ) (tk : Takes X (PostX X.K B H M Ξ)) (r : Vals vs us) (ra : RvAll X.K B vs rs) (h : pd rs M Φ (fun x M' => Ξ x ρ M')) :
    codeAny (model X.prog X.w) X.A (.call (.ref f) ar) (fun r s' => match r with | .ok (.ret u) => EP X pins σ (PostE X.K B H M Φ) u s' | .ok _ => False | .error e => X.xe e s') s := by
  have hE : ∀ cls d H', PostF X.K B H M (fun x M' => Ξ x ρ M') cls d H' → PostX X.K B H M Ξ cls d σ H' := fun cls d H' ⟨B', M', x, o, g, v, q⟩ => ⟨B', M', ρ, x, o, g, env_mono g.ex env, v, q⟩
  refine codeAny_mono (F.run X.A X.stack s H ar us vs (PostE X.K B H M Φ) (fun cls d H' => PostX X.K B H M Ξ cls d σ H') hr hg I.env0 hb r ⟨B, M, rs, Φ, _, ok, ra, h, fun _ _ q => q, hE⟩) fun res s' hq => ?_
  cases res with
  | error e => exact tk e s' (XE.of_call I (fun cls d H' q => q) hq)
  | ok fl =>
    cases fl with
    | ret u => exact I.after hq
    | next => exact hq.elim
    | brk => exact hq.elim
    | cont => exact hq.elim
theorem ge_call {x : Str} {k : Nat} {ps : List Str} {ord : List (List Str)} {pd : Prom} {e : Expr} {es : List Expr} {p pos : Pos} (Df : Def X x k ps ord pd) (hr : Room k X.A) (hgu : X.A.guards = some []) (hg : Gl X x)
    (he : starEach (e :: es) X.env = (false, eval e X.env) :: starEach es X.env) (hpl : (backTo pos (starEach es X.env)).any (·.1) = false)
    (h : GA X (e :: es) ρ M (fun rs M1 => pd rs M1 Φ (fun x M2 => Ξ x ρ M2)) Ξ) : GE X (.Call (.Name x p) (e :: es) [] pos) ρ M Φ Ξ := fun B H σ ok env tk => by
  obtain ⟨⟨f, fd, F, hm, hk, hb, _⟩, hdb⟩ := Df
  intro pins s I
  refine wpAny_Call_Name_kw (ld_glob I hg hm ?_ hdb)
  refine PySem.W.callWith_K (h₀ := X.base) I.ok.mod.kin hk (thn (args h ok env tk (Q := fun vs H1 => ∃ B1 M1 rs, Ok X.K B1 H1 M1 ∧ Fr B H M B1 H1 M1 ∧ RvAll X.K B1 vs rs ∧ pd rs M1 Φ (fun x M2 => Ξ x ρ M2)) (fun vs H1 B1 M1 rs o1 f1 q1 k => ⟨B1, M1, rs, o1, f1, q1, k⟩) pos pins s I)
    fun us s1 ⟨vs, H1, I1, r, B1, M1, rs, o1, f1, q1, q⟩ => ⟨I1.kIn, ?_⟩) he hpl
  have hl : us.length = ps.length := by rw [← r.length, q1.length]; exact F.len _ _ _ _ q
  refine wpAny_call (codeAny_mono (run_D F hr hgu (.of_eq (hb us hl)) I1 o1 (env_mono f1.ex env) (tk_after tk f1) r q1 q) fun res s' hq => ?_)
  cases res with
  | error e => exact hq
  | ok fl =>
    cases fl with
    | ret u => obtain ⟨v, H', I', rv, z⟩ := hq; exact ⟨v, H', I', rv, postE_after f1 z⟩
    | next => exact hq.elim
    | brk => exact hq.elim
    | cont => exact hq.elim
/-- keywords' values, from the left -/
def kS (X : Cx) (kws : List Keyword) : TA := fun σ H Q => ∀ (pos : Pos) (pins : List (Addr × Obj)) (s : Shared), Inv X pins σ H s → wpAny (model X.prog X.w) X.A (evalAll ((backToKw pos (keywordEach kws X.env)).map (·.2))) (AP X pins σ Q) X.xe s
def GK (X : Cx) (kws : List Keyword) (ρ : List Rv) (M : Mem) (Ψ : List Rv → Mem → Prop) (Ξ : Xi) : Prop :=
  ∀ B H σ, Ok X.K B H M → EnvOk X.K B σ ρ → Takes X (PostX X.K B H M Ξ) → kS X kws σ H (PostA X.K B H M Ψ)
theorem gk_nil {Ψ : List Rv → Mem → Prop} (h : Ψ [] M) : GK X [] ρ M Ψ Ξ := fun B H σ ok env tk pos pins s I => pk_nil.run pos pins s σ H _ I ⟨B, M, [], ok, .refl, .nil, h⟩
theorem gk_cons {nm : Option Str} {e : Expr} {kpos : Pos} {kws : List Keyword} {Ψ : List Rv → Mem → Prop} (h : GE X e ρ M (fun r M1 => GK X kws ρ M1 (fun rs M2 => Ψ (r :: rs) M2) Ξ) Ξ) : GK X (⟨nm, e, kpos⟩ :: kws) ρ M Ψ Ξ :=
  fun B H σ ok env tk pos pins s I => (pk_cons (pe_S (e := e)) (⟨fun pos pins s σ H Q I h => h pos pins s I⟩ : PK X kws (kS X kws))).run pos pins s σ H _ I
    (one h ok env tk fun v H1 B1 M1 r o1 f1 q1 ha pos pins s I => thn (ha B1 H1 σ o1 (env_mono f1.ex env) (tk_after tk f1) pos pins s I) fun us s' ⟨vs, H2, I2, rv, B2, M2, rs, o2, f2, q2, k⟩ =>
      ⟨vs, H2, I2, rv, B2, M2, r :: rs, o2, f1.trans f2, .cons (rv_mono f2.ex q1) q2, k⟩)
/-- f(k = v, ..), keywords alone -/
theorem ge_callK {x : Str} {k : Nat} {ps ks : List Str} {ord : List (List Str)} {pd : Prom} {kws : List Keyword} {p pos : Pos} (Df : Def X x k ps ord pd) (hr : Room k X.A) (hgu : X.A.guards = some []) (hg : Gl X x) (hks : (backToKw pos (keywordEach kws X.env)).filterMap (·.1) = ks) (ho : ks ∈ ord)
    (hall : (backToKw pos (keywordEach kws X.env)).all (·.1.isSome) = true) (hpl : ((backTo pos (starEach [] X.env)).any (·.1) || (backToKw pos (keywordEach kws X.env)).any (·.1.isNone)) = false)
    (h : GK X kws ρ M (fun rs M1 => rs.length = ks.length ∧ pd (pick ks ps rs) M1 Φ (fun x M2 => Ξ x ρ M2)) Ξ) : GE X (.Call (.Name x p) [] kws pos) ρ M Φ Ξ := fun B H σ ok env tk => by
  obtain ⟨⟨f, fd, F, hm, hk, _, hb⟩, hdb⟩ := Df
  intro pins s I
  refine wpAny_Call_Name_kw (ld_glob I hg hm ?_ hdb)
  refine PySem.W.callWith_KW0 (h₀ := X.base) I.ok.mod.kin hk hall (thn (h B H σ ok env tk pos pins s I) fun us s1 ⟨vs, H1, I1, r, B1, M1, rs, o1, f1, q1, el, q⟩ => ⟨I1.kIn, ?_⟩) hpl
  rw [hks]
  have e1 : us.length = ks.length := by rw [← r.length, q1.length, el]
  show wpAny _ _ (call (.ref f) ([] ++ []) (ks.zip us)) _ _ _
  refine wpAny_call (codeAny_mono (run_D (us := pick ks ps us) (vs := pick ks ps vs) F hr hgu (.of_eq (hb ks ho us e1)) I1 o1 (env_mono f1.ex env) (tk_after tk f1) (pick_rel r ps) (.ofPair (pick_rel q1.pair ps)) q) fun res s' hq => ?_)
  cases res with
  | error e => exact hq
  | ok fl =>
    cases fl with
    | ret u => obtain ⟨v, H', I', rv, z⟩ := hq; exact ⟨v, H', I', rv, postE_after f1 z⟩
    | next => exact hq.elim
    | brk => exact hq.elim
    | cont => exact hq.elim
end
end Dl

set_option Elab.async false
set_option linter.all false
set_option maxRecDepth 100000
set_option maxHeartbeats 4000000
namespace Dl
open PySem PySem.Spec PyProof.Rows L2
section
variable {X : Cx} {ρ : List Rv} {M : Mem} {Φ : Pst} {Ξ : Xi} {D : DE}

/-! ## items, slices -/
/-- the kind is known ahead: a list, a tuple, a list that may change -/
theorem ge_ixL {a b : Expr} {pos : Pos} (hp : PlainIx b) (ha : GE X a ρ M (fun x M1 => GE X b ρ M1 (fun y M2 => ∃ ds i d, x = .d (.list ds) ∧ y = .d (.int i) ∧ atI ds i = some d ∧ Φ (.d d) M2) Ξ) Ξ) : GE X (.Subscript a b pos) ρ M Φ Ξ := fun B H σ ok env tk =>
  eS_of (pe_ix ix_list pe_S pe_S hp) (one ha ok env tk fun v H1 B1 M1 r o1 f1 q1 hb => one hb o1 (env_mono f1.ex env) (tk_after tk f1) fun w H2 B2 M2 r2 o2 f2 q2 ⟨ds, i, d, e1, e2, e3, k⟩ => by
    subst e1 e2
    cases q1 with
    | d q1 => cases q1 with
      | lst hs ha =>
        rename_i p xs
        obtain ⟨j, hj⟩ : ∃ j, ixN ds.length i = some j ∧ ds[j]? = some d := by
          unfold atI at e3
          exact Option.bind_eq_some_iff.mp e3
        obtain ⟨x, h1, h2⟩ := DpAll.get j d ha hj.2
        refine ⟨p, xs, i, x, rfl, int_of q2, o2.ext.seq (f2.ex.seq hs), ?_, B2, M2, .d d, o2, f1.trans f2, .d (dp_mono f2.ex _ h2), k⟩
        unfold atI
        rw [DpAll.len ha, hj.1]
        exact h1)
theorem ge_ixT {a b : Expr} {pos : Pos} (hp : PlainIx b) (ha : GE X a ρ M (fun x M1 => GE X b ρ M1 (fun y M2 => ∃ ds i d, x = .d (.tuple ds) ∧ y = .d (.int i) ∧ atI ds i = some d ∧ Φ (.d d) M2) Ξ) Ξ) : GE X (.Subscript a b pos) ρ M Φ Ξ := fun B H σ ok env tk =>
  eS_of (pe_ix ix_tup pe_S pe_S hp) (one ha ok env tk fun v H1 B1 M1 r o1 f1 q1 hb => one hb o1 (env_mono f1.ex env) (tk_after tk f1) fun w H2 B2 M2 r2 o2 f2 q2 ⟨ds, i, d, e1, e2, e3, k⟩ => by
    subst e1 e2
    cases q1 with
    | d q1 => cases q1 with
      | tup hs ha =>
        rename_i p xs
        obtain ⟨j, hj⟩ : ∃ j, ixN ds.length i = some j ∧ ds[j]? = some d := by
          unfold atI at e3
          exact Option.bind_eq_some_iff.mp e3
        obtain ⟨x, h1, h2⟩ := DpAll.get j d ha hj.2
        refine ⟨p, xs, i, x, rfl, int_of q2, sq_mono o2.ext (sq_mono f2.ex hs), ?_, B2, M2, .d d, o2, f1.trans f2, .d (dp_mono f2.ex _ h2), k⟩
        unfold atI
        rw [DpAll.len ha, hj.1]
        exact h1)
/-- a tuple that holds lists that may change -/
theorem ge_ixU {a b : Expr} {pos : Pos} (hp : PlainIx b) (ha : GE X a ρ M (fun x M1 => GE X b ρ M1 (fun y M2 => ∃ rs i r, x = .tup rs ∧ y = .d (.int i) ∧ atI rs i = some r ∧ Φ r M2) Ξ) Ξ) : GE X (.Subscript a b pos) ρ M Φ Ξ := fun B H σ ok env tk =>
  eS_of (pe_ix ix_tup pe_S pe_S hp) (one ha ok env tk fun v H1 B1 M1 r o1 f1 q1 hb => one hb o1 (env_mono f1.ex env) (tk_after tk f1) fun w H2 B2 M2 r2 o2 f2 q2 ⟨ds, i, d, e1, e2, e3, k⟩ => by
    subst e1 e2
    cases q1 with
    | tup hs ha =>
        rename_i p xs
        obtain ⟨j, hj⟩ : ∃ j, ixN ds.length i = some j ∧ ds[j]? = some d := by
          unfold atI at e3
          exact Option.bind_eq_some_iff.mp e3
        obtain ⟨x, h1, h2⟩ := RvAll.get j d ha hj.2
        refine ⟨p, xs, i, x, rfl, int_of q2, sq_mono o2.ext (sq_mono f2.ex hs), ?_, B2, M2, d, o2, f1.trans f2, rv_mono f2.ex h2, k⟩
        unfold atI
        rw [ha.length, hj.1]
        exact h1)
/-- an item of a list that may change -/
theorem ge_ixC {a b : Expr} {pos : Pos} (hp : PlainIx b) (ha : GE X a ρ M (fun x M1 => GE X b ρ M1 (fun y M2 => ∃ (p : Addr) (P : List Rv → Prop) (i : Int), x = .cell p ∧ (p, P) ∈ M2 ∧ y = .d (.int i) ∧ (∀ rs, P rs → ∃ r, atI rs i = some r ∧ Φ r M2)) Ξ) Ξ) : GE X (.Subscript a b pos) ρ M Φ Ξ := fun B H σ ok env tk =>
  eS_of (pe_ix ix_list pe_S pe_S hp) (one ha ok env tk fun v H1 B1 M1 r o1 f1 q1 hb => one hb o1 (env_mono f1.ex env) (tk_after tk f1) fun w H2 B2 M2 r2 o2 f2 q2 ⟨p, P, i, e1, hm, e2, k⟩ => by
    subst e1 e2
    cases q1
    obtain ⟨_, xs, rs, hH, hx, hP⟩ := o2.mem _ hm
    obtain ⟨r, e3, k⟩ := k rs hP
    obtain ⟨j, hj⟩ : ∃ j, ixN rs.length i = some j ∧ rs[j]? = some r := by
      unfold atI at e3
      exact Option.bind_eq_some_iff.mp e3
    obtain ⟨x, h1, h2⟩ := RvAll.get j r hx hj.2
    refine ⟨p, xs, i, x, rfl, int_of q2, .of hH, ?_, B2, M2, r, o2, f1.trans f2, h2, k⟩
    unfold atI
    rw [hx.length, hj.1]
    exact h1)
def pS (X : Cx) (e : Option Expr) : TO := fun σ H Q => ∀ (pins : List (Addr × Obj)) (s : Shared), Inv X pins σ H s → wpAny (model X.prog X.w) X.A (evalPart e X.env) (fun u s' => ∃ o H', Inv X pins σ H' s' ∧ IsPart u o ∧ Q o H') X.xe s
theorem po_S {e : Option Expr} : PO X e (pS X e) := ⟨fun pins s _ _ _ I h => h pins s I⟩
theorem pS_of {e : Option Expr} {t : TO} (h : PO X e t) {σ : Slots} {H : Hp} {Q : Option Int → Hp → Prop} (q : t σ H Q) : pS X e σ H Q := fun pins s I => h.run pins s σ H Q I q
theorem pS_mono {e : Option Expr} {σ : Slots} {H : Hp} {Q Q' : Option Int → Hp → Prop} (h : pS X e σ H Q) (k : ∀ v H', Q v H' → Q' v H') : pS X e σ H Q' := fun pins s I =>
  thn (h pins s I) fun u s' ⟨o, H', I', r, q⟩ => ⟨o, H', I', r, k _ _ q⟩
def GO (X : Cx) (e : Option Expr) (ρ : List Rv) (M : Mem) (Ψ : Option Int → Mem → Prop) (Ξ : Xi) : Prop :=
  ∀ B H σ, Ok X.K B H M → EnvOk X.K B σ ρ → Takes X (PostX X.K B H M Ξ) → pS X e σ H fun o H' => ∃ B' M', Ok X.K B' H' M' ∧ Fr B H M B' H' M' ∧ Ψ o M'
theorem go_none {Ψ : Option Int → Mem → Prop} (h : Ψ none M) : GO X none ρ M Ψ Ξ := fun B H σ ok env tk => pS_of po_none ⟨B, M, ok, .refl, h⟩
theorem go_some {e : Expr} {Ψ : Option Int → Mem → Prop} (h : GE X e ρ M (fun r M1 => ∃ i : Int, r = .d (.int i) ∧ Ψ (some i) M1) Ξ) : GO X (some e) ρ M Ψ Ξ := fun B H σ ok env tk =>
  pS_of (po_some pe_S) (one h ok env tk fun v H1 B1 M1 r o1 f1 q1 ⟨i, e, k⟩ => by
    subst e
    exact ⟨i, int_of q1, B1, M1, o1, f1, k⟩)
theorem cut_dp {K : Frg} {B : Hp} {xs : List V} {ds : List PyData} (h : DpAll K B xs ds) (a n : Nat) : DpAll K B ((xs.drop a).take n) ((ds.drop a).take n) := by
  have hd : ∀ (a : Nat) {xs : List V} {ds : List PyData}, DpAll K B xs ds → DpAll K B (xs.drop a) (ds.drop a) := by
    intro a
    induction a with
    | zero => intro xs ds h; exact h
    | succ a ih =>
      intro xs ds h
      cases h with
      | nil => exact .nil
      | cons _ t => exact ih t
  have ht : ∀ (n : Nat) {xs : List V} {ds : List PyData}, DpAll K B xs ds → DpAll K B (xs.take n) (ds.take n) := by
    intro n
    induction n with
    | zero => intro xs ds h; exact .nil
    | succ n ih =>
      intro xs ds h
      cases h with
      | nil => exact .nil
      | cons h t => exact .cons h (ih t)
  exact ht n (hd a h)
/-- the slice lo .. hi of a list -/
def cutD {α : Type} (xs : List α) (lo hi : Option Int) : List α := (xs.drop (HT.sIx xs.length 0 lo)).take (HT.sIx xs.length xs.length hi - HT.sIx xs.length 0 lo)
theorem ge_slice {e : Expr} {lo hi : Option Expr} {pos p2 : Pos} (h : GE X e ρ M (fun x M1 => GO X lo ρ M1 (fun l M2 => GO X hi ρ M2 (fun u M3 => ∃ ds, x = .d (.list ds) ∧ Φ (.d (.list (cutD ds l u))) M3) Ξ) Ξ) Ξ) : GE X (.Subscript e (.Slice lo hi none p2) pos) ρ M Φ Ξ := fun B H σ ok env tk =>
  eS_of (pe_slice sl_list pe_S po_S po_S) (one h ok env tk fun v H1 B1 M1 r o1 f1 q1 hb => pS_mono (hb B1 H1 σ o1 (env_mono f1.ex env) (tk_after tk f1)) fun l H2 ⟨B2, M2, o2, f2, hc⟩ =>
    pS_mono (hc B2 H2 σ o2 (env_mono (f1.trans f2).ex env) (tk_after tk (f1.trans f2))) fun u H3 ⟨B3, M3, o3, f3, ds, e, k⟩ => by
      subst e
      cases q1 with
      | d q1 => cases q1 with
        | lst hs ha =>
          rename_i a xs
          have f23 := f2.trans f3
          refine ⟨a, xs, rfl, o3.ext.seq (f23.ex.seq hs), fun p hp => postE_after (f1.trans f23) (post_frz o3 hp (.d (.lst (.of upd_same) ?_)) k)⟩
          refine dpAll_mono (f23.ex.trans (same_new (sub_none o3.ext hp))) _ ?_
          have z := cut_dp ha (HT.sIx xs.length 0 l) (HT.sIx xs.length xs.length u - HT.sIx xs.length 0 l)
          unfold cutV cutD
          rw [DpAll.len ha] at z ⊢
          exact z)
/-- a slice of a list that may change: a new list that won't -/
theorem ge_sliceC {e : Expr} {lo hi : Option Expr} {pos p2 : Pos} (h : GE X e ρ M (fun x M1 => GO X lo ρ M1 (fun l M2 => GO X hi ρ M2 (fun u M3 => ∃ (p : Addr) (P : List Rv → Prop), x = .cell p ∧ (p, P) ∈ M3 ∧ ∀ rs, P rs → ∃ ds : List PyData, rs = ds.map Rv.d ∧ Φ (.d (.list (cutD ds l u))) M3) Ξ) Ξ) Ξ) : GE X (.Subscript e (.Slice lo hi none p2) pos) ρ M Φ Ξ := fun B H σ ok env tk =>
  eS_of (pe_slice sl_list pe_S po_S po_S) (one h ok env tk fun v H1 B1 M1 r o1 f1 q1 hb => pS_mono (hb B1 H1 σ o1 (env_mono f1.ex env) (tk_after tk f1)) fun l H2 ⟨B2, M2, o2, f2, hc⟩ =>
    pS_mono (hc B2 H2 σ o2 (env_mono (f1.trans f2).ex env) (tk_after tk (f1.trans f2))) fun u H3 ⟨B3, M3, o3, f3, p, P, e, hm, k⟩ => by
      subst e
      cases q1
      obtain ⟨_, xs, rs, hH, hx, hP⟩ := o3.mem _ hm
      obtain ⟨ds, e, k⟩ := k rs hP
      subst e
      have ha := hx.data
      refine ⟨p, xs, rfl, .of hH, fun q hq => postE_after (f1.trans (f2.trans f3)) (post_frz o3 hq (.d (.lst (.of upd_same) ?_)) k)⟩
      refine dpAll_mono (same_new (sub_none o3.ext hq)) _ ?_
      have z := cut_dp ha (HT.sIx xs.length 0 l) (HT.sIx xs.length xs.length u - HT.sIx xs.length 0 l)
      unfold cutV cutD
      rw [DpAll.len ha] at z ⊢
      exact z)

/-! ## lists that change -/
theorem ge_append {o e : Expr} {apos cpos : Pos} (h1 : attributeBase o "append" X.env (eval o X.env) = eval o X.env)
    (h2 : ((backTo cpos (starEach [e] X.env)).all (!·.1) && (backToKw cpos (keywordEach [] X.env)).all (·.1.isSome) && decide (([e] : List Expr).length + ([] : List Keyword).length + (if ([] : List Keyword).isEmpty = true then 0 else 1) < 30)) = true)
    (h3 : (apos.endLine == cpos.line) = true) (h4 : starEach [e] X.env = (false, eval e X.env) :: starEach [] X.env) (h5 : (backTo cpos (starEach [] X.env)).any (·.1) = false)
    (h : GE X o ρ M (fun x M1 => ∃ p P, x = .cell p ∧ (p, P) ∈ M1 ∧ GE X e ρ M1 (fun r M2 => ∃ rs Ma Mb, M2 = Ma ++ (p, Is rs) :: Mb ∧ rs.length < sizeLine ∧ Φ (.d .none) (Ma ++ (p, Is (rs ++ [r])) :: Mb)) Ξ) Ξ) :
    GE X (.Call (.Attribute o "append" apos) [e] [] cpos) ρ M Φ Ξ := fun B H σ ok env tk =>
  eS_of (pe_bm PySem.F.plainAttrs_list PySem.F.slot_list_append PySem.F.type_list_append mt_append pe_S (pa_cons pe_S pa_nil h4) h1 h2 h3 h4 h5)
    (one h ok env tk fun v H1 B1 M1 x o1 f1 q1 ⟨p, P, e1, hm, he⟩ => by
      subst e1
      cases q1
      obtain ⟨_, xs, _, hH, _, _⟩ := o1.mem _ hm
      refine ⟨.inl ⟨rfl, xs, .of hH⟩, ?_⟩
      refine one he o1 (env_mono f1.ex env) (tk_after tk f1) fun w H2 B2 M2 r o2 f2 q2 ⟨rs, Ma, Mb, e2, hl, k⟩ => ?_
      subst e2
      obtain ⟨_, ys, rs', hH2, hx, hP⟩ := o2.mem (p, Is rs) (by simp)
      have e3 : rs' = rs := hP
      subst e3
      refine ⟨p, ys, w, rfl, rfl, hH2, by rw [hx.length]; exact hl, ?_⟩
      have z := ok_mut (P' := Is (rs' ++ [r])) (rs := rs' ++ [r]) o2 (RvAll.app hx (.cons q2 .nil)) rfl
      exact ⟨B2, _, .d .none, z.1, (f1.trans f2).trans z.2, .d .non, k⟩)
/-- xs[i] = e -/
theorem gs_setix {o i e : Expr} {p1 pos : Pos} (h1 : swapsWithSole [.Subscript o i p1] e pos.line X.env = pure false) (h2 : swappedStores [.Subscript o i p1] e X.env = pure none) (h3 : (assignEach [.Subscript o i p1] X.env).map (·.2) = [assign (.Subscript o i p1) X.env])
    (h4 : ∀ v, assign (.Subscript o i p1) X.env v = (do let ov ← holding [v] (eval o X.env); let iv ← holding [v, ov] (eval i X.env); standAt p1; holding [v, ov, iv] (setItem ov iv v); release [v, ov, iv] []))
    (h : GE X e ρ M (fun r M1 => GE X o ρ M1 (fun x M2 => GE X i ρ M2 (fun y M3 => ∃ p rs Ma Mb k j, x = .cell p ∧ y = .d (.int k) ∧ M3 = Ma ++ (p, Is rs) :: Mb ∧ ixN rs.length k = some j ∧ D.nx ρ (Ma ++ (p, Is (rs.set j r)) :: Mb)) D.xx) D.xx) D.xx) :
    GS X (.Assign [.Subscript o i p1] e pos) ρ M D := fun B H σ ok env tk =>
  sS_of (ps_asg pe_S (pg_sub pe_S pe_S set_list h4) h1 h2 h3) (one h ok env tk fun v H1 B1 M1 r o1 f1 q1 ho => one ho o1 (env_mono f1.ex env) (tk_after tk f1) fun w H2 B2 M2 x o2 f2 q2 hi =>
    one hi o2 (env_mono (f1.trans f2).ex env) (tk_after tk (f1.trans f2)) fun u H3 B3 M3 y o3 f3 q3 ⟨p, rs, Ma, Mb, k, j, e1, e2, e3, hj, z⟩ => by
      subst e1 e2 e3
      cases q2
      obtain ⟨_, ys, rs', hH, hx, hP⟩ := o3.mem (p, Is rs) (by simp)
      have e4 : rs' = rs := hP
      subst e4
      refine ⟨p, ys, k, j, rfl, int_of q3, hH, by rw [hx.length]; exact hj, ?_⟩
      have set : ∀ (j : Nat) {vs : List V} {qs : List Rv}, RvAll X.K B3 vs qs → RvAll X.K B3 (vs.set j v) (qs.set j r) := by
        intro j
        induction j with
        | zero => intro vs qs h; cases h with
          | nil => exact .nil
          | cons _ t => exact .cons (rv_mono (f2.trans f3).ex q1) t
        | succ j ih => intro vs qs h; cases h with
          | nil => exact .nil
          | cons h t => exact .cons h (ih t)
      have z2 := ok_mut (P' := Is (rs'.set j r)) (rs := rs'.set j r) o3 (set j hx) rfl
      have f := ((f1.trans f2).trans f3).trans z2.2
      exact ⟨B3, _, ρ, z2.1, f, env_mono f.ex env, z⟩)
/-- the content of a list that may change is looked at -/
theorem gss_open {st : List Stmt} {Ma Mb : Mem} {c : Addr} {P : List Rv → Prop} (h : ∀ rs, P rs → GSs X st ρ (Ma ++ (c, Is rs) :: Mb) D) : GSs X st ρ (Ma ++ (c, P) :: Mb) D := fun B H σ ok env tk => by
  obtain ⟨b, xs, rs, hH, hx, hP⟩ := ok.mem (c, P) (by simp)
  have keys : ((Ma ++ (c, Is rs) :: Mb).map (·.1)) = ((Ma ++ (c, P) :: Mb).map (·.1)) := by simp
  have sub : ∀ q ∈ Ma ++ (c, Is rs) :: Mb, q = (c, Is rs) ∨ q ∈ Ma ++ (c, P) :: Mb := fun q hq => by
    rcases List.mem_append.mp hq with h | h
    · exact .inr (by simp [h])
    · rcases List.mem_cons.mp h with h | h
      · exact .inl h
      · exact .inr (by simp [h])
  have o1 : Ok X.K B H (Ma ++ (c, Is rs) :: Mb) := ⟨ok.ext, fun q hq => by
    rcases sub q hq with rfl | h
    · exact ⟨b, xs, rs, hH, hx, rfl⟩
    · exact ok.mem q h, by rw [keys]; exact ok.nd⟩
  have f1 : Fr B H (Ma ++ (c, P) :: Mb) B H (Ma ++ (c, Is rs) :: Mb) := ⟨Same.refl _, fun _ _ h b _ => ⟨h, b⟩, fun q hq => by
    rcases sub q hq with rfl | h
    · exact .inl ⟨(c, P), by simp, rfl⟩
    · exact .inl ⟨q, h, rfl⟩, fun _ h => h⟩
  exact ssS_mono (h rs hP B H σ o1 env (tk_after tk f1)) (ends_after f1)
theorem ok_weak {K : Frg} {B H : Hp} {Ma Mb : Mem} {c : Addr} {P P' : List Rv → Prop} (hP : ∀ rs, P rs → P' rs) (ok : Ok K B H (Ma ++ (c, P) :: Mb)) : Ok K B H (Ma ++ (c, P') :: Mb) ∧ Fr B H (Ma ++ (c, P) :: Mb) B H (Ma ++ (c, P') :: Mb) := by
  have sub : ∀ q ∈ Ma ++ (c, P') :: Mb, q = (c, P') ∨ q ∈ Ma ++ (c, P) :: Mb := fun q hq => by
    rcases List.mem_append.mp hq with h | h
    · exact .inr (by simp [h])
    · rcases List.mem_cons.mp h with h | h
      · exact .inl h
      · exact .inr (by simp [h])
  refine ⟨⟨ok.ext, fun q hq => ?_, ?_⟩, ⟨Same.refl _, fun _ _ h b _ => ⟨h, b⟩, fun q hq => ?_, fun _ h => h⟩⟩
  · rcases sub q hq with rfl | h
    · obtain ⟨b, xs, rs, hH, hx, z⟩ := ok.mem (c, P) (by simp)
      exact ⟨b, xs, rs, hH, hx, hP rs z⟩
    · exact ok.mem q h
  · have z := ok.nd
    simpa using z
  · rcases sub q hq with rfl | h
    · exact .inl ⟨(c, P), by simp, rfl⟩
    · exact .inl ⟨q, h, rfl⟩
/-- .. is forgotten again, behind a value -/
theorem ge_close {e : Expr} {c : Addr} {P : List Rv → Prop} (h : GE X e ρ M (fun r M1 => ∃ rs Ma Mb, M1 = Ma ++ (c, Is rs) :: Mb ∧ P rs ∧ Φ r (Ma ++ (c, P) :: Mb)) Ξ) : GE X e ρ M Φ Ξ := fun B H σ ok env tk =>
  one h ok env tk fun v H1 B1 M1 r o1 f1 q1 ⟨rs, Ma, Mb, e, hP, k⟩ => by
    subst e
    have z := ok_weak (P' := P) (fun x (hx : x = rs) => by rw [hx]; exact hP) o1
    exact ⟨B1, _, r, z.1, f1.trans z.2, q1, k⟩
theorem gss_close {st : List Stmt} {c : Addr} {rs : List Rv} {Ma Mb : Mem} (P : List Rv → Prop) (hP : P rs) (h : GSs X st ρ (Ma ++ (c, P) :: Mb) D) : GSs X st ρ (Ma ++ (c, Is rs) :: Mb) D := fun B H σ ok env tk => by
  have z := ok_weak (P' := P) (fun x (hx : x = rs) => by rw [hx]; exact hP) ok
  exact ssS_mono (h B H σ z.1 env (tk_after tk z.2)) (ends_after z.2)

/-! ## built-ins by values -/
theorem ge_ty {x : Str} {n : String} {pos : Pos} (hb : Bi X x (.type n)) (hg : Gl X x) (h : Φ (.raw (.ty n)) M) : GE X (.Name x pos) ρ M Φ Ξ := fun B H σ ok env tk =>
  eS_of (pe_bltn (v := .ty n) hg hb.m hb.b rfl hb.n hb.d) (post_same ok (.raw _) h)
theorem gc_lenL {ds : List PyData} (h : Φ (.d (.int ds.length)) M) : GC X (.builtin "len") [.d (.list ds)] M Φ := gc_mk call_len_seq fun B H vs ok a => by
  cases a with
  | cons q t => cases t; cases q with
    | d q => cases q with
      | lst hs ha => exact ⟨_, _, rfl, .inl (ok.ext.seq hs), by rw [DpAll.len ha]; exact post_same ok (.d (.int _)) h⟩
theorem gc_lenT {ds : List PyData} (h : Φ (.d (.int ds.length)) M) : GC X (.builtin "len") [.d (.tuple ds)] M Φ := gc_mk call_len_seq fun B H vs ok a => by
  cases a with
  | cons q t => cases t; cases q with
    | d q => cases q with
      | tup hs ha => exact ⟨_, _, rfl, .inr (sq_mono ok.ext hs), by rw [DpAll.len ha]; exact post_same ok (.d (.int _)) h⟩
theorem gc_lenC {p : Addr} {P : List Rv → Prop} (hm : (p, P) ∈ M) (h : ∀ rs, P rs → Φ (.d (.int rs.length)) M) : GC X (.builtin "len") [.cell p] M Φ := gc_mk call_len_seq fun B H vs ok a => by
  cases a with
  | cons q t =>
    cases t; cases q
    obtain ⟨_, xs, rs, hH, hx, hP⟩ := ok.mem _ hm
    exact ⟨_, _, rfl, .inl (.of hH), by rw [hx.length]; exact post_same ok (.d (.int _)) (h rs hP)⟩
theorem vals_int1 {K : Frg} {B : Hp} {vs : List V} {i : Int} (a : RvAll K B vs [.d (.int i)]) : vs = [.int i] := by
  cases a with | cons q t => cases t; rw [int_of q]
theorem vals_int2 {K : Frg} {B : Hp} {vs : List V} {i j : Int} (a : RvAll K B vs [.d (.int i), .d (.int j)]) : vs = [.int i, .int j] := by
  cases a with | cons q t => cases t with | cons q2 t => cases t; rw [int_of q, int_of q2]
theorem gc_abs {i : Int} (h : Φ (.d (.int (i.natAbs : Nat))) M) : GC X (.builtin "abs") [.d (.int i)] M Φ := gc_mk call_abs fun B H vs ok a => by
  rw [vals_int1 a]
  refine ⟨i, rfl, ?_⟩
  have e : (if i < 0 then -i else i) = (i.natAbs : Int) := by split <;> omega
  rw [e]
  exact post_same ok (.d (.int _)) h
theorem gc_max {i j : Int} (hc : X.calm = true) (h : Φ (.d (.int (max i j))) M) : GC X (.builtin "max") [.d (.int i), .d (.int j)] M Φ := gc_mk (call_max2 hc) fun B H vs ok a => by
  rw [vals_int2 a]
  refine ⟨i, j, rfl, ?_⟩
  have e : (if j > i then j else i) = max i j := by split <;> omega
  rw [e]
  exact post_same ok (.d (.int _)) h
theorem gc_min {i j : Int} (hc : X.calm = true) (h : Φ (.d (.int (min i j))) M) : GC X (.builtin "min") [.d (.int i), .d (.int j)] M Φ := gc_mk (call_min2 hc) fun B H vs ok a => by
  rw [vals_int2 a]
  refine ⟨i, j, rfl, ?_⟩
  have e : (if j < i then j else i) = min i j := by split <;> omega
  rw [e]
  exact post_same ok (.d (.int _)) h
theorem gc_int {i : Int} (h : Φ (.d (.int i)) M) : GC X (.type "int") [.d (.int i)] M Φ := gc_mk call_int1 fun B H vs ok a => .inl ⟨i, vals_int1 a, post_same ok (.d (.int _)) h⟩
theorem gc_intB {k : Bool} (h : Φ (.d (.int (if k = true then 1 else 0))) M) : GC X (.type "int") [.d (.bool k)] M Φ := gc_mk call_int1 fun B H vs ok a => .inr ⟨k, by cases a with | cons q t => cases t; rw [bool_of q], post_same ok (.d (.int _)) h⟩
theorem dp_ints {K : Frg} {B : Hp} : ∀ {vs : List V} (ns : List Int), DpAll K B vs (ns.map PyData.int) → vs = ns.map V.int
  | _, [], h => by cases h; rfl
  | _, n :: ns, h => by
    cases h with
    | cons h t => cases h; rw [dp_ints ns t]; rfl
theorem dp_bools {K : Frg} {B : Hp} : ∀ {vs : List V} (ns : List Bool), DpAll K B vs (ns.map PyData.bool) → vs = ns.map V.bl
  | _, [], h => by cases h; rfl
  | _, n :: ns, h => by
    cases h with
    | cons h t => cases h; rw [dp_bools ns t]; rfl
theorem gc_sum {ns : List Int} (hc : X.calm = true) (h : Φ (.d (.int ns.sum)) M) : GC X (.builtin "sum") [.d (.list (ns.map PyData.int))] M Φ := gc_mk (cr_sum hc) fun B H vs ok a => by
  cases a with
  | cons q t => cases t; cases q with
    | d q => cases q with
      | lst hs ha =>
        have e := dp_ints ns ha
        subst e
        exact ⟨_, ns, rfl, ok.ext.seq hs, post_same ok (.d (.int _)) h⟩
theorem gc_all {bs : List Bool} (hc : X.calm = true) (h : Φ (.d (.bool (bs.all id))) M) : GC X (.builtin "all") [.d (.list (bs.map PyData.bool))] M Φ := gc_mk (cr_all hc) fun B H vs ok a => by
  cases a with
  | cons q t => cases t; cases q with
    | d q => cases q with
      | lst hs ha =>
        have e := dp_bools bs ha
        subst e
        exact ⟨_, bs, rfl, ok.ext.seq hs, post_same ok (.d (.bl _)) h⟩
/-- list(xs), to be changed -/
theorem gc_listO {ds : List PyData} (h : ∀ p, Φ (.cell p) ((p, Is (ds.map Rv.d)) :: M)) : GC X (.type "list") [.d (.list ds)] M Φ := gc_mk call_list_of fun B H vs ok a => by
  cases a with
  | cons q t => cases t; cases q with
    | d q => cases q with
      | lst hs ha => exact ⟨_, _, rfl, .inl (ok.ext.seq hs), fun l hl => post_own (P := Is (ds.map Rv.d)) ok hl (RvAll.ofData ha) rfl (h l)⟩
theorem gc_list {ds : List PyData} (h : Φ (.d (.list ds)) M) : GC X (.type "list") [.d (.list ds)] M Φ := gc_mk call_list_of fun B H vs ok a => by
  cases a with
  | cons q t => cases t; cases q with
    | d q => cases q with
      | lst hs ha => exact ⟨_, _, rfl, .inl (ok.ext.seq hs), fun l hl => post_frz ok hl (.d (.lst (.of upd_same) (dpAll_mono (same_new (sub_none ok.ext hl)) _ ha))) h⟩
theorem gc_listT {ds : List PyData} (h : Φ (.d (.list ds)) M) : GC X (.type "list") [.d (.tuple ds)] M Φ := gc_mk call_list_of fun B H vs ok a => by
  cases a with
  | cons q t => cases t; cases q with
    | d q => cases q with
      | tup hs ha => exact ⟨_, _, rfl, .inr (sq_mono ok.ext hs), fun l hl => post_frz ok hl (.d (.lst (.of upd_same) (dpAll_mono (same_new (sub_none ok.ext hl)) _ ha))) h⟩
/-! isinstance -/
def tyN : PyData → String
  | .none => "NoneType" | .bool _ => "bool" | .int _ => "int" | .str _ => "str" | .list _ => "list" | .tuple _ => "tuple" | .dict _ => "dict"
theorem ty_of {K : Frg} {H : Hp} {v : V} : ∀ {d : PyData}, Dp K H v d → TyX K H v (.type (tyN d))
  | _, .non => .base .non
  | _, .bl b => .base (.bl b)
  | _, .int i => .base (.int i)
  | _, .str x => .base (.str x)
  | _, .lst (.inl (.inl h)) _ => .base (.lst h)
  | _, .lst (.inl (.inr ⟨_, h⟩)) _ => .base (.frz h)
  | _, .lst (.inr ⟨_, _, _, h, c, _⟩) _ => .kList h c
  | _, .tup (.inl (.inl h)) _ => .base (.tup h)
  | _, .tup (.inl (.inr ⟨_, h⟩)) _ => .fTuple h
  | _, .tup (.inr ⟨_, _, _, h, c, _⟩) _ => .kTuple h c
theorem gc_isi {d : PyData} {T : String} {b : Bool} (hk : kitB (tyN d) T = some b) (h : Φ (.d (.bool b)) M) : GC X (.builtin "isinstance") [.d d, .raw (.ty T)] M Φ := gc_mk call_isi fun B H vs ok a => by
  cases a with
  | cons q t => cases t with
    | cons q2 t =>
      cases t; cases q2
      cases q with
      | d q => exact ⟨_, _, _, _, b, rfl, .ty T, ty_of (dp_mono ok.ext _ q), kit_ty hk, post_same ok (.d (.bl b)) h⟩
/-! repr -/
mutual
theorem noDict {K : Frg} {H : Hp} : ∀ {v : V} (d : PyData), Dp K H v d → d.hasDict = false
  | _, .none, _ => by simp [PyData.hasDict]
  | _, .bool _, _ => by simp [PyData.hasDict]
  | _, .int _, _ => by simp [PyData.hasDict]
  | _, .str _, _ => by simp [PyData.hasDict]
  | _, .list ds, .lst _ a => by simp only [PyData.hasDict]; exact noDictAll ds a
  | _, .tuple ds, .tup _ a => by simp only [PyData.hasDict]; exact noDictAll ds a
theorem noDictAll {K : Frg} {H : Hp} : ∀ {vs : List V} (ds : List PyData), DpAll K H vs ds → PyData.hasDictAll ds = false
  | _, [], _ => by simp [PyData.hasDictAll]
  | _, d :: ds, .cons h t => by simp only [PyData.hasDictAll, noDict d h, noDictAll ds t, Bool.or_self]
end
/-- repr of a list, a tuple -/
def rRepr (K : Frg) (d : PyData) : List V → Hp → VK → Prop := fun vs H Q => ∃ a, vs = [.ref a] ∧ Dp K H (.ref a) d ∧ Q (.str d.shown) H
theorem call_repr {d : PyData} (hg : X.A.guards = some []) (hs : d.showable = true) (hu : X.A.units + (d.depth + 1) < cLine) (hz : d.shown.length ≤ sizeLine) : CallR X (.builtin "repr") (rRepr X.K d) := by
  intro pins s σ H vs us Q I r h
  obtain ⟨a, rfl, hd, q⟩ := h
  obtain ⟨u, rfl, ru⟩ := vals1 r
  cases ru
  obtain ⟨as, rd⟩ := Dp.reads I d (.ref a) (.ref a) hd rfl
  exact repr_of_reads' rd hs (PyData.noDict_hsm (noDict d hd)) hg hu (fun _ _ e => e) (fun h' u tk hk => ⟨.str d.shown, H, I.kept hk, ⟨_, rfl⟩, q⟩) hz
theorem gc_repr {d : PyData} (hd : (match d with | .list _ => true | .tuple _ => true | _ => false) = true) (hg : X.A.guards = some []) (hs : d.showable = true) (hu : X.A.units + (d.depth + 1) < cLine) (hz : d.shown.length ≤ sizeLine) (h : Φ (.d (.str d.shown)) M) :
    GC X (.builtin "repr") [.d d] M Φ := gc_mk (call_repr hg hs hu hz) fun B H vs ok a => by
  cases a with
  | cons q t =>
    cases t
    cases q with
    | d q =>
      have q' := dp_mono ok.ext _ q
      cases q with
      | lst _ _ => exact ⟨_, rfl, q', post_same ok (.d (.str _)) h⟩
      | tup _ _ => exact ⟨_, rfl, q', post_same ok (.d (.str _)) h⟩
      | non => cases hd
      | bl _ => cases hd
      | int _ => cases hd
      | str _ => cases hd
/-! powers, lists joined -/
def CPowW (i j : Int) : Prop := 0 ≤ j ∧ (Builtin.Int.intBits i : Int) * j ≤ 2 ^ 27
theorem op_powW : OpR X (binaryOp .Pow) (rI CPowW fun i j => .int (i ^ j.toNat)) := by
  intro pins s σ H x y v u Q I rx ry h
  obtain ⟨i, j, rfl, rfl, hc, q⟩ := h
  obtain ⟨t, rfl⟩ := rx
  obtain ⟨t', rfl⟩ := ry
  exact PyProof.Rows.pow_int hc.1 hc.2 ⟨.int _, H, I.tok _, ⟨_, rfl⟩, q⟩
theorem g2_pow {i : Int} {n : Nat} {r : Int} (hc : CPowW i n) (e : i ^ n = r) (h : Φ (.d (.int r)) M) : G2 X (binaryOp .Pow) (.d (.int i)) (.d (.int (n : Nat))) M Φ := g2_I op_powW (d := .int r) (fun K H => by rw [Int.toNat_natCast, e]; exact .int _) hc h
def rCatS (K : Frg) : R2 := fun x y H Q => ∃ l b xs zs, x = .ref l ∧ y = .ref b ∧ SqL K H l xs ∧ SqL K H b zs ∧ xs.length + zs.length ≤ sizeLine ∧ ∀ p, H p = none → Q (.ref p) (upd H p (.lst (xs ++ zs)))
theorem op_catS : OpR X (binaryOp .Add) (rCatS X.K) := by
  intro pins s σ H x y v u Q I rx ry h
  obtain ⟨l, b, xs, zs, rfl, rfl, hL, hB, hz, q⟩ := h
  cases rx
  cases ry
  obtain ⟨its, r1, ⟨⟨c1, d1, dt1, s1⟩, n1, e1, hc1, hd1, hq1⟩, _⟩ := I.list hL
  obtain ⟨its2, r2, ⟨⟨c2, d2, dt2, s2⟩, n2, e2, hc2, hd2, hq2⟩, _⟩ := I.list hB
  simp only at hc1 hd1 hq1 hc2 hd2 hq2
  subst hc1 hd1 hq1 hc2 hd2 hq2
  have ea : its.toArray ++ its2.toArray = (its ++ its2).toArray := by simp
  refine concat_meets ⟨_, e1, rfl⟩ ⟨_, e2, rfl⟩ noFill_list_add seq_list_add PySem.F.slot_list_add PySem.F.entry_list_add (PySem.F.args_list_add_2 _ _) (list_addW l b its.toArray its2.toArray n1 n2 none none s1 s2 (by rw [List.size_toArray, List.size_toArray, ← r1.length, ← r2.length]; exact hz)) ⟨e1, e2, ?_⟩
  rw [ea]
  exact ⟨.ref _, _, I.lnew (t' := s.toks) (r1.append r2) (by rw [List.length_append]; omega), rfl, q _ I.fresh⟩
theorem g2_cat {ds es : List PyData} (hz : ds.length + es.length ≤ sizeLine) (h : Φ (.d (.list (ds ++ es))) M) : G2 X (binaryOp .Add) (.d (.list ds)) (.d (.list es)) M Φ := g2_mk op_catS fun B H v w ok a b => by
  cases a with
  | d a => cases a with
    | lst ha da => cases b with
      | d b => cases b with
        | lst hb db =>
          refine ⟨_, _, _, _, rfl, rfl, ok.ext.seq ha, ok.ext.seq hb, by rw [DpAll.len da, DpAll.len db]; exact hz, fun p hp => post_frz ok hp (.d (.lst (.of upd_same) ?_)) h⟩
          exact dpAll_mono (same_new (sub_none ok.ext hp)) _ (DpAll.app da db)

/-! ## comprehensions -/
def wipeR (ρ : List Rv) : List Nat → List Rv
  | [] => ρ
  | v :: vs => (wipeR ρ vs).set v .any
theorem env_wipe {K : Frg} {B : Hp} {σ : Slots} {ρ : List Rv} (h : EnvOk K B σ ρ) : ∀ vs : List Nat, EnvOk K B (wipe σ vs) (wipeR ρ vs)
  | [] => h
  | v :: vs => env_set .none1 v (env_wipe h vs)
/-- tests of a comprehension -/
def GTs (X : Cx) (ifs : List Expr) (ρ : List Rv) (M : Mem) (Ψ : Bool → Mem → Prop) (Ξ : Xi) : Prop :=
  match ifs with
  | [] => Ψ true M
  | [c] => GT X c ρ M Ψ Ξ
  | _ => False
/-- in any block of the comprehension -/
def AllB (X : Cx) (scope : Scope) (P : Cx → Prop) : Prop := ∀ (s : Shared) (H : Hp) (C : Addr) (cl : List (Str × Addr)) (fp : List Addr), P (X.blk s H scope (compEnvC scope cl C X.env) fp)
/-- the turns of a comprehension: F is wanted of what is made -/
def CompD (X : Cx) (tg elt : Expr) (ifs : List Expr) (scope : Scope) (vs : List Nat) (ρ : List Rv) (F : List Rv → Mem → Prop) : List Rv → List Rv → Mem → Prop
  | [], acc, M => F acc M
  | r :: rs, acc, M => acc.length < sizeLine ∧ AllB X scope fun X1 => GG X1 tg r (wipeR ρ vs) M (fun ρ2 M2 => AllB X scope fun X2 => GTs X2 ifs ρ2 M2 (fun b M3 =>
        (b = true → AllB X scope fun X3 => GE X3 elt ρ2 M3 (fun y M4 => CompD X tg elt ifs scope vs ρ F rs (acc ++ [y]) M4) X0) ∧ (b = false → CompD X tg elt ifs scope vs ρ F rs acc M3)) X0) vs
structure At (B H : Hp) (M : Mem) (L : Addr) (xs : List V) : Prop where
  h : H L = some (.lst xs)
  b : B L = none
  m : ∀ p ∈ M, p.1 ≠ L
theorem At.step {B H B1 H1 : Hp} {M M1 : Mem} {L : Addr} {xs : List V} (a : At B H M L xs) (f : Fr B H M B1 H1 M1) : At B1 H1 M1 L xs :=
  ⟨(f.out L _ a.h a.b a.m).1, (f.out L _ a.h a.b a.m).2, fun p hp e => by
    rcases f.new p hp with ⟨q, hq, e2⟩ | e2
    · exact a.m q hq (e2.trans e)
    · rw [e, a.h] at e2; cases e2⟩
theorem At.set {K : Frg} {B H : Hp} {M : Mem} {L : Addr} {xs ys : List V} (a : At B H M L xs) (ok : Ok K B H M) : Ok K B (upd H L (.lst ys)) M ∧ At B (upd H L (.lst ys)) M L ys :=
  ⟨⟨fun x u e => by rw [upd_ne (ne_of_none e a.b)]; exact ok.ext x u e, fun q hq => by
    obtain ⟨h1, vs, rs, h2, h3, h4⟩ := ok.mem q hq
    exact ⟨h1, vs, rs, by rw [upd_ne (a.m q hq)]; exact h2, h3, h4⟩, ok.nd⟩, upd_same, a.b, a.m⟩
theorem fr_set {B H B1 H1 : Hp} {M M1 : Mem} {L : Addr} {o : HO} (f : Fr B H M B1 H1 M1) (hL : H L = none) : Fr B H M B1 (upd H1 L o) M1 :=
  ⟨f.ex, fun a u h b m => by
    have z := f.out a u h b m
    exact ⟨by rw [upd_ne (ne_of_none h hL)]; exact z.1, z.2⟩, f.new, fun a h => by
    by_cases e : a = L
    · subst e; exact hL
    · rw [upd_ne e] at h; exact f.grow a h⟩
theorem tk0 {B H : Hp} : Takes X (PostX X.K B H M X0) := takes0.imp fun _ _ _ _ ⟨_, _, _, _, _, _, _, _, z⟩ => z.elim
section
variable {tg elt iter : Expr} {ifs : List Expr} {scope : Scope} {own : List (Str × Nat)} {pos : Pos}
def gB (X : Cx) (scope : Scope) (tg : Expr) : TG := fun v σ H Q => AllB X scope fun X1 => gS X1 tg v σ H Q
def tsS (X : Cx) (ifs : List Expr) : TT := fun σ H Q => ∃ t, PTs X ifs t ∧ t σ H Q
def tB (X : Cx) (scope : Scope) (ifs : List Expr) : TT := fun σ H Q => AllB X scope fun X1 => tsS X1 ifs σ H Q
def eB (X : Cx) (scope : Scope) (e : Expr) : TE := fun σ H Q => AllB X scope fun X1 => eS X1 e σ H Q
theorem comp_turns (own : List (Str × Nat)) (hown : own ≠ []) {F : List Rv → Mem → Prop} {Q : VK} {σ : Slots} {B1 H1 : Hp} {M1 : Mem} {J : It} {items : List Rv} {L : Addr} (w : Walk J items.length (fun H => Same B1 H) (fun i H x H' => ∀ r, items[i]? = some r → Step X.K B1 r x H H'))
    (o1 : Ok X.K B1 H1 M1) (env : EnvOk X.K B1 σ ρ) (hL : H1 L = none) (h0 : CompD X tg elt ifs scope (own.map (·.2)) ρ F items [] M1)
    (hd : ∀ H' B' M' acc xs, Ok X.K B' H' M' → Fr B1 H1 M1 B' H' M' → At B' H' M' L xs → RvAll X.K B' xs acc → F acc M' → Q (.ref L) H') :
    ∃ W : Nat → Nat → Hp → Prop, (∃ m, W 0 m (upd H1 L (.lst []))) ∧ ∀ i m H, W i m H → (J.stop i H ∧ Q (.ref L) H) ∨ (J.go i H ∧ ∃ Nx : Hp → Prop, (∀ H', Nx H' → ∃ m', m' < m ∧ W (i + 1) m' H') ∧
      ∀ x H', J.yld i H x H' → gB X scope tg x (wipe σ (own.map (·.2))) H' fun σ2 H2 => wipe σ2 (own.map (·.2)) = wipe σ (own.map (·.2)) ∧ tB X scope ifs σ2 H2 fun b H3 =>
        if b = true then eB X scope elt σ2 H3 fun y H4 => ∃ acc, H4 L = some (.lst acc) ∧ acc.length < sizeLine ∧ Nx (upd H4 L (.lst (acc ++ [y]))) else Nx H3) := by
  have bL := sub_none o1.ext hL
  have mL : ∀ p ∈ M1, p.1 ≠ L := fun p hp e => by
    obtain ⟨_, _, _, h, _⟩ := o1.mem p hp
    rw [e, hL] at h; cases h
  refine lc_it w (Qd := fun H' => Q (.ref L) H') (fun i H' => ∃ B' M' acc xs, Ok X.K B' H' M' ∧ Fr B1 H1 M1 B' H' M' ∧ At B' H' M' L xs ∧ RvAll X.K B' xs acc ∧ CompD X tg elt ifs scope (own.map (·.2)) ρ F (items.drop i) acc M') ?_
    (fun i H' _ ⟨B', M', acc, xs, o, f, _⟩ => f.ex.trans o.ext) (fun i x H2 H3 hi ⟨B2, M2, acc, xs, o2, f2, a2, r2, c2⟩ y => ?_) (fun H' ⟨B', M', acc, xs, o, f, a, r, c⟩ => ?_)
  · refine ⟨B1, M1, [], [], ⟨fun x u e => by rw [upd_ne (ne_of_none e bL)]; exact o1.ext x u e, fun q hq => ?_, o1.nd⟩, fr_set .refl hL, ⟨upd_same, bL, mL⟩, .nil, h0⟩
    obtain ⟨h1, vs, rs, h2, h3, h4⟩ := o1.mem q hq
    exact ⟨h1, vs, rs, by rw [upd_ne (mL q hq)]; exact h2, h3, h4⟩
  · obtain ⟨r, hr⟩ : ∃ r, items[i]? = some r := ⟨items[i], by simp [hi]⟩
    obtain ⟨B3, o3, f3, q3⟩ := y r hr B2 M2 o2 f2.ex
    rw [List.drop_eq_getElem_cons hi, (List.getElem?_eq_some_iff.mp hr).2] at c2
    obtain ⟨hz, c2⟩ := c2
    have a3 := a2.step f3
    have f13 := f2.trans f3
    intro s H C cl fp
    refine gS_mono (c2 s H C cl fp B3 H3 (wipe σ (own.map (·.2))) x o3 (env_wipe (env_mono f13.ex env) _) q3) fun σ4 H4 ⟨hw, B4, M4, ρ4, o4, f4, e4, c4⟩ => ?_
    have ww : ∀ (vs : List Nat) (τ : Slots), wipe (wipe τ vs) vs = wipe τ vs := by
      intro vs τ
      have ix : ∀ (vs : List Nat) (τ : Slots) (j : Nat), (wipe τ vs)[j]? = if j ∈ vs ∧ j < τ.length then some none else τ[j]? := by
        intro vs
        induction vs with
        | nil => intro τ j; simp [wipe]
        | cons a vs ih =>
          intro τ j
          show ((wipe τ vs).set a none)[j]? = _
          rw [List.getElem?_set, ih, wipe_length]
          by_cases e : a = j
          · subst e
            by_cases hl : a < τ.length
            · simp [hl]
            · simp [hl, List.getElem?_eq_none (Nat.le_of_not_lt hl)]
          · have e' : ¬ j = a := fun z => e z.symm
            simp [e, e']
      refine List.ext_getElem? fun j => ?_
      rw [ix vs (wipe τ vs) j, ix vs τ j, wipe_length]
      split <;> rfl
    refine ⟨?_, ?_⟩
    · cases own with
      | nil => exact absurd rfl hown
      | cons p own => rw [hw (by simp), ww]
    · intro s H C cl fp
      have a4 := a3.step f4
      have f14 := f13.trans f4
      have k := c4 s H C cl fp
      have fin : ∀ b H5, PostT X.K B4 H4 M4 (fun b M3 => (b = true → AllB X scope fun X3 => GE X3 elt ρ4 M3 (fun y M4 => CompD X tg elt ifs scope (own.map (·.2)) ρ F (items.drop (i + 1)) (acc ++ [y]) M4) X0) ∧ (b = false → CompD X tg elt ifs scope (own.map (·.2)) ρ F (items.drop (i + 1)) acc M3)) b H5 →
          (if b = true then eB X scope elt σ4 H5 fun y H4 => ∃ acc, H4 L = some (.lst acc) ∧ acc.length < sizeLine ∧ (∃ B' M' acc_1 xs, Ok X.K B' (upd H4 L (.lst (acc ++ [y]))) M' ∧ Fr B1 H1 M1 B' (upd H4 L (.lst (acc ++ [y]))) M' ∧ At B' (upd H4 L (.lst (acc ++ [y]))) M' L xs ∧ RvAll X.K B' xs acc_1 ∧ CompD X tg elt ifs scope (own.map (·.2)) ρ F (items.drop (i + 1)) acc_1 M')
            else ∃ B' M' acc xs, Ok X.K B' H5 M' ∧ Fr B1 H1 M1 B' H5 M' ∧ At B' H5 M' L xs ∧ RvAll X.K B' xs acc ∧ CompD X tg elt ifs scope (own.map (·.2)) ρ F (items.drop (i + 1)) acc M') := fun b H5 ⟨B5, M5, o5, f5, k5⟩ => by
        have a5 := a4.step f5
        have f15 := f14.trans f5
        have r5 := rvAll_mono (f3.ex.trans (f4.ex.trans f5.ex)) r2
        cases b with
        | true =>
          rw [if_pos rfl]
          intro s H C cl fp
          refine eS_mono (k5.1 rfl s H C cl fp B5 H5 σ4 o5 (env_mono f5.ex e4) tk0) fun v H6 ⟨B6, M6, r6, o6, f6, q6, c6⟩ => ?_
          have a6 := a5.step f6
          refine ⟨xs, a6.h, by rw [r2.length]; exact hz, B6, M6, acc ++ [r6], xs ++ [v], (a6.set o6).1, fr_set (f15.trans f6) hL, (a6.set o6).2, RvAll.app (rvAll_mono f6.ex r5) (.cons q6 .nil), c6⟩
        | false =>
          rw [if_neg Bool.false_ne_true]
          exact ⟨B5, M5, acc, xs, o5, f15, a5, r5, k5.2 rfl⟩
      match ifs, k, fin with
      | [], k, fin => exact ⟨tYes, pts_nil, fin true H4 ⟨B4, M4, o4, .refl, k⟩⟩
      | [c], k, fin => exact ⟨_, pts_one pt_S, tS_mono (k B4 H4 σ4 o4 e4 tk0) fin⟩
      | _ :: _ :: _, k, fin => exact k.elim
  · rw [List.drop_length] at c
    exact hd H' B' M' acc xs o f a r c
theorem at_frz {K : Frg} {B H : Hp} {M : Mem} {L : Addr} {xs : List V} (a : At B H M L xs) (ok : Ok K B H M) : Ok K (upd B L (.lst xs)) H M := ⟨fun x u e => by
    by_cases e2 : x = L
    · subst e2; rw [upd_same] at e; cases e; exact a.h
    · rw [upd_ne e2] at e; exact ok.ext x u e, fun q hq => by
    obtain ⟨h1, vs, rs, h2, h3, h4⟩ := ok.mem q hq
    exact ⟨by rw [upd_ne (a.m q hq)]; exact h1, vs, rs, h2, rvAll_mono (same_new a.b) h3, h4⟩, ok.nd⟩
theorem at_own {K : Frg} {B H : Hp} {M : Mem} {L : Addr} {xs : List V} {rs : List Rv} (a : At B H M L xs) (ok : Ok K B H M) (hx : RvAll K B xs rs) : Ok K B H ((L, Is rs) :: M) := ⟨ok.ext, fun q hq => by
    rcases List.mem_cons.mp hq with rfl | hq
    · exact ⟨a.b, xs, rs, a.h, hx, rfl⟩
    · exact ok.mem q hq, by
    rw [List.map_cons, List.nodup_cons]
    exact ⟨fun hm => by
      obtain ⟨q, hq, e⟩ := List.mem_map.mp hm
      exact a.m q hq e, ok.nd⟩⟩
/-- what is wanted of the whole list: it won't change | it may -/
def Frz (Φ : Pst) : List Rv → Mem → Prop := fun acc M => ∃ ds : List PyData, acc = ds.map Rv.d ∧ Φ (.d (.list ds)) M
def Own (Φ : Pst) : List Rv → Mem → Prop := fun acc M => ∀ p, Φ (.cell p) ((p, Is acc) :: M)
theorem lc_end {F : List Rv → Mem → Prop} (hF : F = Frz Φ ∨ F = Own Φ) {B H B1 H1 H' B' : Hp} {M M1 M' : Mem} {L : Addr} {acc : List Rv} {xs : List V} (f1 : Fr B H M B1 H1 M1) (hL : H1 L = none) (o : Ok X.K B' H' M') (f : Fr B1 H1 M1 B' H' M') (a : At B' H' M' L xs) (r : RvAll X.K B' xs acc) (h : F acc M') :
    PostE X.K B H M Φ (.ref L) H' := by
  rcases hF with rfl | rfl
  · obtain ⟨ds, rfl, k⟩ := h
    refine postE_after f1 ⟨upd B' L (.lst xs), M', _, at_frz a o, ⟨f.ex.trans (same_new a.b), fun x u h b m => ?_, f.new, f.grow⟩, .d (.lst (.of upd_same) (dpAll_mono (same_new a.b) _ r.data)), k⟩
    have z := f.out x u h b m
    exact ⟨z.1, by rw [upd_ne (ne_of_none h hL)]; exact z.2⟩
  · refine postE_after f1 ⟨B', _, .cell L, at_own a o r, ⟨f.ex, f.out, fun q hq => ?_, f.grow⟩, .cell L, h L⟩
    rcases List.mem_cons.mp hq with rfl | hq
    · exact .inr hL
    · exact f.new q hq
theorem ge_lc (own : List (Str × Nat)) {F : List Rv → Mem → Prop} (hF : F = Frz Φ ∨ F = Own Φ) (hown : own ≠ []) (hc : X.calm = true) (hN : X.N.Nodup) (hk : BlkOk X.N X.env.scope scope own) (hs : ∀ x, foldedSetIterable iter X.env x = pure x)
    (h : GI X tg iter ρ M (fun items M1 => CompD X tg elt ifs scope (own.map (·.2)) ρ F items [] M1) Ξ) : GE X (.ListComp elt [⟨tg, iter, ifs, 0⟩] scope pos) ρ M Φ Ξ := fun B H σ ok env tk =>
  eS_of (pe_lc (g := gB X scope tg) (tt := tB X scope ifs) (te := eB X scope elt) (own := own) hc hN pi_S hk (fun s H C cl fp => ⟨fun pins s' σ H v u Q I r h => h s _ C cl fp pins s' u I r⟩)
      (fun s H C cl fp => ⟨fun pins s' σ H Q I h => by obtain ⟨t, ht, k⟩ := h s _ C cl fp; exact ht.run pins s' σ H Q I k⟩) (fun s H C cl fp => ⟨fun pins s' σ H Q I h => h s _ C cl fp pins s' I⟩) hs)
    (iS_mono (h B H σ ok env tk) fun J H1 ⟨B1, M1, items, o1, f1, hC, w⟩ L hL => comp_turns own hown (F := F) w o1 (env_mono f1.ex env) hL hC fun H' B' M' acc xs o f a r k => lc_end hF f1 hL o f a r k)
/-- x = [..] -/
theorem gs_lc (own : List (Str × Nat)) {i : Nat} {y : Str} {py spos : Pos} {F : List Rv → Mem → Prop} (hF : F = Frz (fun r M1 => D.nx (ρ.set i r) M1) ∨ F = Own (fun r M1 => D.nx (ρ.set i r) M1)) (hown : own ≠ []) (hv : Var X i y) (hc : X.calm = true) (hN : X.N.Nodup) (hyl : X.env.scope.names.lookup y = some .local)
    (hsw : swapsWith (.ListComp elt [⟨tg, iter, ifs, 0⟩] scope pos) (some (.Name y py)) spos.line X.env = pure true) (hk : BlkOk X.N X.env.scope scope own) (hs : ∀ x, foldedSetIterable iter X.env x = pure x)
    (h : GI X tg iter ρ M (fun items M1 => CompD X tg elt ifs scope (own.map (·.2)) ρ F items [] M1) D.xx) : GS X (.Assign [.Name y py] (.ListComp elt [⟨tg, iter, ifs, 0⟩] scope pos) spos) ρ M D := fun B H σ ok env tk =>
  sS_of (ps_setLc (g := gB X scope tg) (tt := tB X scope ifs) (te := eB X scope elt) (own := own) hc hN hv.n hyl hsw pi_S hk (fun s H C cl fp => ⟨fun pins s' σ H v u Q I r h => h s _ C cl fp pins s' u I r⟩)
      (fun s H C cl fp => ⟨fun pins s' σ H Q I h => by obtain ⟨t, ht, k⟩ := h s _ C cl fp; exact ht.run pins s' σ H Q I k⟩) (fun s H C cl fp => ⟨fun pins s' σ H Q I h => h s _ C cl fp pins s' I⟩) hs)
    (iS_mono (h B H σ ok env tk) fun J H1 ⟨B1, M1, items, o1, f1, hC, w⟩ L hL => comp_turns own hown (F := F) (Q := fun v H1 => gName i v σ H1 (ends X.K B H M D).nx) w o1 (env_mono f1.ex env) hL hC fun H' B' M' acc xs o f a r k => by
      obtain ⟨B2, M2, r2, o2, f2, q2, k2⟩ := lc_end (Φ := fun r M1 => D.nx (ρ.set i r) M1) hF f1 hL o f a r k
      exact ⟨B2, M2, _, o2, f2, env_set (.some q2) i (env_mono f2.ex env), k2⟩)
/-- a comprehension whose elements are data, by a function; the memory stays -/
theorem compD_map {α : Type} {vs : List Nat} {F : List Rv → Mem → Prop} {xs : List α} {g : α → Rv} {f : α → PyData} (hz : xs.length ≤ sizeLine) (h : ∀ x ∈ xs, AllB X scope fun X1 => GG X1 tg (g x) (wipeR ρ vs) M (fun ρ2 M2 => AllB X scope fun X3 => GE X3 elt ρ2 M2 (fun y M4 => y = .d (f x) ∧ M4 = M) X0) vs)
    (hF : F ((xs.map f).map Rv.d) M) : CompD X tg elt [] scope vs ρ F (xs.map g) [] M := by
  have main : ∀ (post pre : List α), xs = pre ++ post → CompD X tg elt [] scope vs ρ F (post.map g) ((pre.map f).map Rv.d) M := by
    intro post
    induction post with
    | nil => intro pre e; rw [List.append_nil] at e; subst e; exact hF
    | cons x post ih =>
      intro pre e
      refine ⟨?_, fun s H C cl fp B' H' σ v ok env q => gS_mono (h x (by rw [e]; simp) s H C cl fp B' H' σ v ok env q) fun σ' H2 ⟨w, B2, M2, ρ2, o2, f2, e2, k⟩ => ⟨w, B2, M2, ρ2, o2, f2, e2, fun s2 H2 C2 cl2 fp2 => ?_⟩⟩
      · rw [List.length_map, List.length_map]
        have z := congrArg List.length e
        rw [List.length_append, List.length_cons] at z
        omega
      · refine ⟨fun _ s3 H3 C3 cl3 fp3 => ge_mono (k s3 H3 C3 cl3 fp3) fun y M4 ⟨e1, e3⟩ => ?_, fun z => by cases z⟩
        subst e1 e3
        have z := ih (pre ++ [x]) (by rw [e]; simp)
        rw [List.map_append, List.map_append] at z
        exact z
  exact main xs [] rfl
end
end
end Dl

set_option Elab.async false
set_option linter.all false
set_option maxRecDepth 100000
set_option maxHeartbeats 4000000
namespace Dl
open PySem PySem.Spec PyProof.Rows L2

/-! ## cells of the memory -/
inductive Cell (c : Addr) (P P' : List Rv → Prop) : Mem → Mem → Prop
  | h {M : Mem} : Cell c P P' ((c, P) :: M) ((c, P') :: M)
  | t {x : Addr × (List Rv → Prop)} {M M' : Mem} : Cell c P P' M M' → Cell c P P' (x :: M) (x :: M')
theorem Cell.split {c : Addr} {P P' : List Rv → Prop} {M M' : Mem} (h : Cell c P P' M M') : ∃ Ma Mb, M = Ma ++ (c, P) :: Mb ∧ M' = Ma ++ (c, P') :: Mb := by
  induction h with
  | h => exact ⟨[], _, rfl, rfl⟩
  | t _ ih => obtain ⟨Ma, Mb, e1, e2⟩ := ih; exact ⟨_ :: Ma, Mb, by rw [e1]; rfl, by rw [e2]; rfl⟩
inductive Del (c : Addr) (P : List Rv → Prop) : Mem → Mem → Prop
  | h {M : Mem} : Del c P ((c, P) :: M) M
  | t {x : Addr × (List Rv → Prop)} {M M' : Mem} : Del c P M M' → Del c P (x :: M) (x :: M')
theorem Del.split {c : Addr} {P : List Rv → Prop} {M M' : Mem} (h : Del c P M M') : ∃ Ma Mb, M = Ma ++ (c, P) :: Mb ∧ M' = Ma ++ Mb := by
  induction h with
  | h => exact ⟨[], _, rfl, rfl⟩
  | t _ ih => obtain ⟨Ma, Mb, e1, e2⟩ := ih; exact ⟨_ :: Ma, Mb, by rw [e1]; rfl, by rw [e2]; rfl⟩
inductive Has (c : Addr) (P : List Rv → Prop) : Mem → Prop
  | h {M : Mem} : Has c P ((c, P) :: M)
  | t {x : Addr × (List Rv → Prop)} {M : Mem} : Has c P M → Has c P (x :: M)
theorem Has.split {c : Addr} {P : List Rv → Prop} {M : Mem} (h : Has c P M) : ∃ Ma Mb, M = Ma ++ (c, P) :: Mb ∧ ∀ P', Cell c P P' M (Ma ++ (c, P') :: Mb) := by
  induction h with
  | h => exact ⟨[], _, rfl, fun _ => .h⟩
  | t _ ih => obtain ⟨Ma, Mb, e1, e2⟩ := ih; exact ⟨_ :: Ma, Mb, by rw [e1]; rfl, fun P' => .t (e2 P')⟩
theorem Has.mem {c : Addr} {P : List Rv → Prop} {M : Mem} (h : Has c P M) : (c, P) ∈ M := by
  obtain ⟨Ma, Mb, e, _⟩ := h.split
  rw [e]; simp
/-- less is told: cells are left out, contents are told less of -/
inductive Le : Mem → Mem → Prop
  | nil : Le [] []
  | keep {c : Addr} {P P' : List Rv → Prop} {M M' : Mem} : (∀ rs, P rs → P' rs) → Le M M' → Le ((c, P) :: M) ((c, P') :: M')
  | drop {x : Addr × (List Rv → Prop)} {M M' : Mem} : Le M M' → Le (x :: M) M'
theorem Le.refl : ∀ (M : Mem), Le M M
  | [] => .nil
  | (_, _) :: M => .keep (fun _ h => h) (Le.refl M)
theorem Le.mem : ∀ {M M' : Mem}, Le M M' → ∀ q ∈ M', ∃ p ∈ M, p.1 = q.1 ∧ ∀ rs, p.2 rs → q.2 rs
  | _, _, .nil, q, h => absurd h (by simp)
  | _, _, .keep (c := c) (P := P) hp l, q, h => by
    rcases List.mem_cons.mp h with rfl | h
    · exact ⟨_, List.mem_cons_self, rfl, hp⟩
    · obtain ⟨p, h1, h2⟩ := l.mem q h
      exact ⟨p, List.mem_cons_of_mem _ h1, h2⟩
  | _, _, .drop l, q, h => by
    obtain ⟨p, h1, h2⟩ := l.mem q h
    exact ⟨p, List.mem_cons_of_mem _ h1, h2⟩
theorem Le.sub : ∀ {M M' : Mem}, Le M M' → (M'.map (·.1)).Sublist (M.map (·.1))
  | _, _, .nil => .slnil
  | _, _, .keep _ l => .cons_cons _ l.sub
  | _, _, .drop l => .cons _ l.sub
theorem ok_le {K : Frg} {B H : Hp} {M M' : Mem} (l : Le M M') (ok : Ok K B H M) : Ok K B H M' ∧ Fr B H M B H M' :=
  ⟨⟨ok.ext, fun q hq => by
    obtain ⟨p, hp, e, i⟩ := l.mem q hq
    obtain ⟨h1, xs, rs, h2, h3, h4⟩ := ok.mem p hp
    exact ⟨by rw [← e]; exact h1, xs, rs, by rw [← e]; exact h2, h3, i rs h4⟩, ok.nd.sublist l.sub⟩,
   ⟨Same.refl _, fun _ _ h b _ => ⟨h, b⟩, fun q hq => let ⟨p, hp, e, _⟩ := l.mem q hq; .inl ⟨p, hp, e⟩, fun _ h => h⟩⟩
section
variable {X : Cx} {ρ : List Rv} {M : Mem} {Φ : Pst} {Ξ : Xi} {D : DE}
theorem ge_le {e : Expr} (h : GE X e ρ M (fun r M1 => ∃ M2, Le M1 M2 ∧ Φ r M2) Ξ) : GE X e ρ M Φ Ξ := fun B H σ ok env tk =>
  one h ok env tk fun v H1 B1 M1 r o1 f1 q1 ⟨M2, l, k⟩ => ⟨B1, M2, r, (ok_le l o1).1, f1.trans (ok_le l o1).2, q1, k⟩
theorem gss_le {st : List Stmt} {M2 : Mem} (l : Le M M2) (h : GSs X st ρ M2 D) : GSs X st ρ M D := fun B H σ ok env tk =>
  ssS_mono (h B H σ (ok_le l ok).1 env (tk_after tk (ok_le l ok).2)) (ends_after (ok_le l ok).2)
theorem gs_retL {e : Expr} {pos : Pos} (h : GE X e ρ M (fun r M1 => ∃ M2, Le M1 M2 ∧ D.rt r M2) D.xx) : GS X (.Return (some e) pos) ρ M D := gs_ret (ge_le h)
theorem gss_look {st : List Stmt} {c : Addr} {P : List Rv → Prop} (hc : Has c P M) (h : ∀ rs M', P rs → Cell c P (Is rs) M M' → GSs X st ρ M' D) : GSs X st ρ M D := by
  obtain ⟨Ma, Mb, e, k⟩ := hc.split
  subst e
  exact gss_open fun rs hr => h rs _ hr (k _)
/-! the rules over cells, with the place found -/
theorem append_at {o e : Expr} {apos cpos : Pos} (h1 : attributeBase o "append" X.env (eval o X.env) = eval o X.env)
    (h2 : ((backTo cpos (starEach [e] X.env)).all (!·.1) && (backToKw cpos (keywordEach [] X.env)).all (·.1.isSome) && decide (([e] : List Expr).length + ([] : List Keyword).length + (if ([] : List Keyword).isEmpty = true then 0 else 1) < 30)) = true)
    (h3 : (apos.endLine == cpos.line) = true) (h4 : starEach [e] X.env = (false, eval e X.env) :: starEach [] X.env) (h5 : (backTo cpos (starEach [] X.env)).any (·.1) = false)
    (h : GE X o ρ M (fun x M1 => ∃ p P, x = .cell p ∧ Has p P M1 ∧ GE X e ρ M1 (fun r M2 => ∃ rs M3, Cell p (Is rs) (Is (rs ++ [r])) M2 M3 ∧ rs.length < sizeLine ∧ Φ (.d .none) M3) Ξ) Ξ) :
    GE X (.Call (.Attribute o "append" apos) [e] [] cpos) ρ M Φ Ξ :=
  ge_append h1 h2 h3 h4 h5 (ge_mono h fun x M1 ⟨p, P, e1, hm, he⟩ => ⟨p, P, e1, hm.mem, ge_mono he fun r M2 ⟨rs, M3, hc, hz, k⟩ => by
    obtain ⟨Ma, Mb, e2, e3⟩ := hc.split
    subst e2 e3
    exact ⟨rs, Ma, Mb, rfl, hz, k⟩⟩)
theorem setix_at {o i e : Expr} {p1 pos : Pos} (h1 : swapsWithSole [.Subscript o i p1] e pos.line X.env = pure false) (h2 : swappedStores [.Subscript o i p1] e X.env = pure none) (h3 : (assignEach [.Subscript o i p1] X.env).map (·.2) = [assign (.Subscript o i p1) X.env])
    (h4 : ∀ v, assign (.Subscript o i p1) X.env v = (do let ov ← holding [v] (eval o X.env); let iv ← holding [v, ov] (eval i X.env); standAt p1; holding [v, ov, iv] (setItem ov iv v); release [v, ov, iv] []))
    (h : GE X e ρ M (fun r M1 => GE X o ρ M1 (fun x M2 => GE X i ρ M2 (fun y M3 => ∃ p rs k j M4, x = .cell p ∧ y = .d (.int k) ∧ Cell p (Is rs) (Is (rs.set j r)) M3 M4 ∧ ixN rs.length k = some j ∧ D.nx ρ M4) D.xx) D.xx) D.xx) :
    GS X (.Assign [.Subscript o i p1] e pos) ρ M D :=
  gs_setix h1 h2 h3 h4 (ge_mono h fun r M1 ho => ge_mono ho fun x M2 hi => ge_mono hi fun y M3 ⟨p, rs, k, j, M4, e1, e2, hc, hj, z⟩ => by
    obtain ⟨Ma, Mb, e3, e4⟩ := hc.split
    subst e3 e4
    exact ⟨p, rs, Ma, Mb, k, j, e1, e2, rfl, hj, z⟩)
theorem ixC_at {a b : Expr} {pos : Pos} (hp : PlainIx b) (ha : GE X a ρ M (fun x M1 => GE X b ρ M1 (fun y M2 => ∃ (p : Addr) (rs : List Rv) (i : Int) (r : Rv), x = .cell p ∧ Has p (Is rs) M2 ∧ y = .d (.int i) ∧ atI rs i = some r ∧ Φ r M2) Ξ) Ξ) : GE X (.Subscript a b pos) ρ M Φ Ξ :=
  ge_ixC hp (ge_mono ha fun x M1 hb => ge_mono hb fun y M2 ⟨p, rs, i, r, e1, hm, e2, e3, k⟩ => ⟨p, Is rs, i, e1, hm.mem, e2, fun rs' (h : rs' = rs) => by rw [h]; exact ⟨r, e3, k⟩⟩)
theorem sliceC_at {e : Expr} {lo hi : Option Expr} {pos p2 : Pos} (h : GE X e ρ M (fun x M1 => GO X lo ρ M1 (fun l M2 => GO X hi ρ M2 (fun u M3 => ∃ (p : Addr) (ds : List PyData), x = .cell p ∧ Has p (Is (ds.map Rv.d)) M3 ∧ Φ (.d (.list (cutD ds l u))) M3) Ξ) Ξ) Ξ) : GE X (.Subscript e (.Slice lo hi none p2) pos) ρ M Φ Ξ :=
  ge_sliceC (ge_mono h fun x M1 hl B H σ ok env tk => pS_mono (hl B H σ ok env tk) fun l H1 ⟨B1, M2, o1, f1, hu⟩ => ⟨B1, M2, o1, f1, fun B H σ ok env tk => pS_mono (hu B H σ ok env tk) fun u H2 ⟨B2, M3, o2, f2, p, ds, e1, hm, k⟩ =>
    ⟨B2, M3, o2, f2, p, Is (ds.map Rv.d), e1, hm.mem, fun rs (h : rs = ds.map Rv.d) => ⟨ds, h, k⟩⟩⟩)
theorem lenC_at {p : Addr} {rs : List Rv} (hm : Has p (Is rs) M) (h : Φ (.d (.int rs.length)) M) : GC X (.builtin "len") [.cell p] M Φ := gc_lenC hm.mem fun rs' (e : rs' = rs) => by rw [e]; exact h
theorem frz_at {st : List Stmt} {M2 : Mem} {a : Addr} {ds : List PyData} {i : Nat} (hd : Del a (Is (ds.map Rv.d)) M M2) (hi : ρ[i]? = some (.cell a)) (h : GSs X st (ρ.set i (.d (.list ds))) M2 D) : GSs X st ρ M D := by
  obtain ⟨Ma, Mb, e1, e2⟩ := hd.split
  subst e1 e2
  exact gss_freeze hi h
theorem frzv_at {e : Expr} (h : GE X e ρ M (fun r M1 => ∃ a ds M2, r = .cell a ∧ Del a (Is (ds.map Rv.d)) M1 M2 ∧ Φ (.d (.list ds)) M2) Ξ) : GE X e ρ M Φ Ξ :=
  ge_freeze (ge_mono h fun r M1 ⟨a, ds, M2, e1, hd, k⟩ => by
    obtain ⟨Ma, Mb, e2, e3⟩ := hd.split
    subst e2 e3
    exact ⟨a, ds, Ma, Mb, e1, rfl, k⟩)
end
end Dl

set_option Elab.async false
set_option linter.all false
set_option maxRecDepth 100000
set_option maxHeartbeats 4000000
namespace Dl
open PySem PySem.Spec PyProof.Rows L2
theorem Cell.app {c : Addr} {P P' : List Rv → Prop} : ∀ {Ma Mb : Mem}, Cell c P P' (Ma ++ (c, P) :: Mb) (Ma ++ (c, P') :: Mb)
  | [], _ => .h
  | _ :: _, _ => .t Cell.app
theorem Has.app {c : Addr} {P : List Rv → Prop} : ∀ {Ma Mb : Mem}, Has c P (Ma ++ (c, P) :: Mb)
  | [], _ => .h
  | _ :: _, _ => .t Has.app
theorem Le.app {c : Addr} {P P' : List Rv → Prop} (h : ∀ rs, P rs → P' rs) : ∀ {Ma Mb : Mem}, Le (Ma ++ (c, P) :: Mb) (Ma ++ (c, P') :: Mb)
  | [], Mb => .keep h (.refl Mb)
  | (_, _) :: _, _ => .keep (fun _ h => h) (Le.app h)
section
variable {X : Cx} {N : List Str} {sc : Scope} {ρ : List Rv} {M : Mem} {Φ : Pst} {Ξ : Xi} {D : DE}
theorem Cxt.var (cx : Cxt X N sc) {i : Nat} {x : Str} (h1 : N[i]? = some x) (h2 : sc.names.lookup x = some .local ∨ sc.names.lookup x = some .cell) (h3 : (x == ("__debug__" : Str)) = false) (h4 : (x == ("__classdict__" : Str)) = false) : Var X i x :=
  ⟨by rw [cx.hN]; exact h1, by rw [cx.sc]; exact h2.elim (fun h => .inl h) fun h => .inr (.inl h), by rw [cx.sc]; exact h2, cx.fn x, h3, h4⟩
theorem Cxt.nm (cx : Cxt X N sc) {i : Nat} {x : Str} (h1 : N[i]? = some x) : Nm X i x := by
  unfold Nm; rw [cx.hN]; exact h1
theorem Cxt.gl (cx : Cxt X N sc) {x : Str} (h : sc.names.lookup x = some .globalImplicit) : Gl X x := by
  unfold Gl Env.kindOf; rw [cx.sc]; exact h
theorem Var.nm {i : Nat} {x : Str} (v : Var X i x) : Nm X i x := v.n
theorem szL {n : Nat} (h : n ≤ 100000) : n ≤ sizeLine := Nat.le_trans h (by decide)
theorem szT {n : Nat} (h : n ≤ 100000) : n < sizeLine := Nat.lt_of_le_of_lt h (by decide)
/-! data out of what is known -/
inductive DataL : List Rv → List PyData → Prop
  | nil : DataL [] []
  | cons {d : PyData} {rs : List Rv} {ds : List PyData} : DataL rs ds → DataL (.d d :: rs) (d :: ds)
theorem DataL.eq {rs : List Rv} {ds : List PyData} (h : DataL rs ds) : rs = ds.map Rv.d := by
  induction h with
  | nil => rfl
  | cons _ ih => rw [List.map_cons, ← ih]
theorem tup_at {es : List Expr} {k : Nat} {pos : Pos} (h : GA X es ρ M (fun rs M1 => ∃ ds : List PyData, DataL rs ds ∧ ds.length ≤ sizeLine ∧ Φ (.d (.tuple ds)) M1) Ξ) : GE X (.Tuple es k pos) ρ M Φ Ξ :=
  ge_tup fun B H σ ok env tk => aS_mono (h B H σ ok env tk) fun _ _ ⟨B', M', rs, o, f, q, ds, hd, z, k⟩ => ⟨B', M', rs, o, f, q, ds, hd.eq, z, k⟩
theorem lst_at {es : List Expr} {pos : Pos} (h : GA X es ρ M (fun rs M1 => ∃ ds : List PyData, DataL rs ds ∧ ds.length ≤ sizeLine ∧ Φ (.d (.list ds)) M1) Ξ) : GE X (.List es pos) ρ M Φ Ξ :=
  ge_lst fun B H σ ok env tk => aS_mono (h B H σ ok env tk) fun _ _ ⟨B', M', rs, o, f, q, ds, hd, z, k⟩ => ⟨B', M', rs, o, f, q, ds, hd.eq, z, k⟩
/-! numbers -/
theorem bits_le {i : Int} {k : Nat} (h : i.natAbs < 2 ^ k) (hk : 0 < k) : Builtin.Int.intBits i ≤ k := by
  have y := PySem.Flt.log2_lt_of hk h
  unfold Builtin.Int.intBits
  split <;> omega
theorem cpow {i : Int} {k n : Nat} (h : i.natAbs < 2 ^ k) (hk : 0 < k) (hz : k * n ≤ 2 ^ 27) : CPowW i n := by
  refine ⟨by omega, ?_⟩
  have b := bits_le h hk
  have : (Builtin.Int.intBits i : Int) * n ≤ ((k * n : Nat) : Int) := by
    rw [Int.natCast_mul]
    exact Int.mul_le_mul_of_nonneg_right (by omega) (by omega)
  omega
theorem g2_ten (n : Nat) {j r : Int} (ej : j = n) (hz : n ≤ 1000) (e : (10 : Int) ^ n = r) (h : Φ (.d (.int r)) M) : G2 X (binaryOp .Pow) (.d (.int 10)) (.d (.int j)) M Φ := by
  subst ej
  exact g2_pow (cpow (k := 4) (by decide) (by decide) (by omega)) e h
/-- i ** 3: some int -/
theorem g2_cube {i : Int} (hb : i.natAbs < 2 ^ 1000) (h : ∀ r, Φ (.d (.int r)) M) : G2 X (binaryOp .Pow) (.d (.int i)) (.d (.int 3)) M Φ :=
  g2_pow (n := 3) (cpow (k := 1000) hb (by decide) (by decide)) rfl (h _)
theorem mulB {i j : Int} (h1 : i.natAbs < 2 ^ 1000) (h2 : j.natAbs < 2 ^ 1000) : CMulW i j := wide_mul h1 h2 (by decide) (by decide) (by decide)
theorem divB {i j : Int} (h1 : 0 < j) (h2 : j.natAbs < 2 ^ 1000) : CDivW i j := wide_div h1 h2 (by decide) (by decide)
theorem ten6 (h : Φ (.d (.int 1000000)) M) : G2 X (binaryOp .Pow) (.d (.int 10)) (.d (.int 6)) M Φ := g2_ten 6 rfl (by decide) (by decide +kernel) h
theorem ten10 (h : Φ (.d (.int 10000000000)) M) : G2 X (binaryOp .Pow) (.d (.int 10)) (.d (.int 10)) M Φ := g2_ten 10 rfl (by decide) (by decide +kernel) h
theorem ten12 (h : Φ (.d (.int 1000000000000)) M) : G2 X (binaryOp .Pow) (.d (.int 10)) (.d (.int 12)) M Φ := g2_ten 12 rfl (by decide) (by decide +kernel) h
theorem ten18 (h : Φ (.d (.int 1000000000000000000)) M) : G2 X (binaryOp .Pow) (.d (.int 10)) (.d (.int 18)) M Φ := g2_ten 18 rfl (by decide) (by decide +kernel) h
theorem ten20 (h : Φ (.d (.int 100000000000000000000)) M) : G2 X (binaryOp .Pow) (.d (.int 10)) (.d (.int 20)) M Φ := g2_ten 20 rfl (by decide) (by decide +kernel) h
theorem ten24 (h : Φ (.d (.int 1000000000000000000000000)) M) : G2 X (binaryOp .Pow) (.d (.int 10)) (.d (.int 24)) M Φ := g2_ten 24 rfl (by decide) (by decide +kernel) h
theorem ten25 (h : Φ (.d (.int 10000000000000000000000000)) M) : G2 X (binaryOp .Pow) (.d (.int 10)) (.d (.int 25)) M Φ := g2_ten 25 rfl (by decide) (by decide +kernel) h
theorem ten26 (h : Φ (.d (.int 100000000000000000000000000)) M) : G2 X (binaryOp .Pow) (.d (.int 10)) (.d (.int 26)) M Φ := g2_ten 26 rfl (by decide) (by decide +kernel) h
theorem ten27 (h : Φ (.d (.int 1000000000000000000000000000)) M) : G2 X (binaryOp .Pow) (.d (.int 10)) (.d (.int 27)) M Φ := g2_ten 27 rfl (by decide) (by decide +kernel) h
theorem ten28 (h : Φ (.d (.int 10000000000000000000000000000)) M) : G2 X (binaryOp .Pow) (.d (.int 10)) (.d (.int 28)) M Φ := g2_ten 28 rfl (by decide) (by decide +kernel) h
theorem ten29 (h : Φ (.d (.int 100000000000000000000000000000)) M) : G2 X (binaryOp .Pow) (.d (.int 10)) (.d (.int 29)) M Φ := g2_ten 29 rfl (by decide) (by decide +kernel) h
theorem ten30 (h : Φ (.d (.int 1000000000000000000000000000000)) M) : G2 X (binaryOp .Pow) (.d (.int 10)) (.d (.int 30)) M Φ := g2_ten 30 rfl (by decide) (by decide +kernel) h
theorem ten37 (h : Φ (.d (.int 10000000000000000000000000000000000000)) M) : G2 X (binaryOp .Pow) (.d (.int 10)) (.d (.int 37)) M Φ := g2_ten 37 rfl (by decide) (by decide +kernel) h
theorem ten41 (h : Φ (.d (.int 100000000000000000000000000000000000000000)) M) : G2 X (binaryOp .Pow) (.d (.int 10)) (.d (.int 41)) M Φ := g2_ten 41 rfl (by decide) (by decide +kernel) h
theorem ten46 (h : Φ (.d (.int 10000000000000000000000000000000000000000000000)) M) : G2 X (binaryOp .Pow) (.d (.int 10)) (.d (.int 46)) M Φ := g2_ten 46 rfl (by decide) (by decide +kernel) h
/-! statements, the ends written out -/
inductive SetAt (r : Rv) : Nat → List Rv → List Rv → Prop
  | z {x : Rv} {ρ : List Rv} : SetAt r 0 (x :: ρ) (r :: ρ)
  | s {i : Nat} {x : Rv} {ρ ρ' : List Rv} : SetAt r i ρ ρ' → SetAt r (i + 1) (x :: ρ) (x :: ρ')
theorem SetAt.eq {r : Rv} {i : Nat} {ρ ρ' : List Rv} (h : SetAt r i ρ ρ') : ρ.set i r = ρ' := by
  induction h with
  | z => rfl
  | s _ ih => rw [List.set_cons_succ, ih]
section
variable {nx : List Rv → Mem → Prop} {rt : Pst} {bk ct : List Rv → Mem → Prop} {xx : Xi}
theorem sq {st : Stmt} {rest : List Stmt} (h : GS X st ρ M ⟨fun ρ1 M1 => GSs X rest ρ1 M1 ⟨nx, rt, bk, ct, xx⟩, rt, bk, ct, xx⟩) : GSs X (st :: rest) ρ M ⟨nx, rt, bk, ct, xx⟩ := gss_cons h
theorem sNil (h : nx ρ M) : GSs X [] ρ M ⟨nx, rt, bk, ct, xx⟩ := gss_nil h
theorem sSet {i : Nat} {x : Str} {e : Expr} {pos pos' : Pos} (hv : Var X i x) (nd : X.N.Nodup) (hs : swapsWith e (some (.Name x pos')) pos.line X.env = pure false)
    (h : GE X e ρ M (fun r M1 => ∃ ρ', SetAt r i ρ ρ' ∧ nx ρ' M1) xx) : GS X (.Assign [.Name x pos'] e pos) ρ M ⟨nx, rt, bk, ct, xx⟩ := gs_set hv nd hs (ge_mono h fun r M1 ⟨ρ', s, k⟩ => by rw [← s.eq] at k; exact k)
theorem sIf {c : Expr} {a b : List Stmt} {pos : Pos} (h : GT X c ρ M (fun k M1 => (k = true → GSs X a ρ M1 ⟨nx, rt, bk, ct, xx⟩) ∧ (k = false → GSs X b ρ M1 ⟨nx, rt, bk, ct, xx⟩)) xx) : GS X (.If c a b pos) ρ M ⟨nx, rt, bk, ct, xx⟩ := gs_if h
theorem sRet {e : Expr} {pos : Pos} (h : GE X e ρ M (fun r M1 => ∃ M2, Le M1 M2 ∧ rt r M2) xx) : GS X (.Return (some e) pos) ρ M ⟨nx, rt, bk, ct, xx⟩ := gs_retL h
theorem sExpr {e : Expr} {pos : Pos} (hs : swapsWith e none pos.line X.env = pure false) (h : GE X e ρ M (fun _ M1 => nx ρ M1) xx) : GS X (.Expr e pos) ρ M ⟨nx, rt, bk, ct, xx⟩ := gs_expr hs h
theorem sPass {pos : Pos} (h : nx ρ M) : GS X (.Pass pos) ρ M ⟨nx, rt, bk, ct, xx⟩ := gs_pass h
theorem sPar {i j : Nat} {x y : Str} {a b : Expr} {px py pt pt2 pos : Pos} {kt k2 : Nat} (hx : Var X i x) (hy : Var X j y) (hc : X.calm = true) (nd : X.N.Nodup) (hij : i ≠ j) (lx : X.env.scope.names.lookup x = some .local) (ly : X.env.scope.names.lookup y = some .local)
    (hs : swappedStores [.Tuple [.Name x px, .Name y py] kt pt] (.Tuple [a, b] k2 pt2) X.env = pure (some [x, y])) (hw : swapsWithSole [.Tuple [.Name x px, .Name y py] kt pt] (.Tuple [a, b] k2 pt2) pos.line X.env = pure false)
    (h : GA X [a, b] ρ M (fun rs M1 => ∃ r q ρ1 ρ2, rs = [r, q] ∧ SetAt r i ρ ρ1 ∧ SetAt q j ρ1 ρ2 ∧ nx ρ2 M1) xx) : GS X (.Assign [.Tuple [.Name x px, .Name y py] kt pt] (.Tuple [a, b] k2 pt2) pos) ρ M ⟨nx, rt, bk, ct, xx⟩ :=
  gs_par hx hy hc nd hij lx ly hs hw fun B H σ ok env tk => aS_mono (h B H σ ok env tk) fun _ _ ⟨B', M', rs, o, f, q, r, q2, ρ1, ρ2, e, s1, s2, k⟩ => ⟨B', M', rs, o, f, q, r, q2, e, by rw [s1.eq, s2.eq]; exact k⟩
theorem sAsg {tg e : Expr} {pos : Pos} (h1 : swapsWithSole [tg] e pos.line X.env = pure false) (h2 : swappedStores [tg] e X.env = pure none) (h3 : (assignEach [tg] X.env).map (·.2) = [assign tg X.env])
    (h : GE X e ρ M (fun r M1 => GG X tg r ρ M1 nx []) xx) : GS X (.Assign [tg] e pos) ρ M ⟨nx, rt, bk, ct, xx⟩ := gs_asg h1 h2 h3 h
/-- a written place -/
inductive IxSet (r : Rv) : Int → List Rv → List Rv → Prop
  | zero {x : Rv} {ρ : List Rv} : IxSet r 0 (x :: ρ) (r :: ρ)
  | one {x y : Rv} {ρ : List Rv} : IxSet r 1 (x :: y :: ρ) (x :: r :: ρ)
  | two {x y z : Rv} {ρ : List Rv} : IxSet r 2 (x :: y :: z :: ρ) (x :: y :: r :: ρ)
  | any {k : Int} {j : Nat} {ρ : List Rv} : ixN ρ.length k = some j → IxSet r k ρ (ρ.set j r)
theorem IxSet.eq {r : Rv} {k : Int} {rs qs : List Rv} (h : IxSet r k rs qs) : ∃ j, ixN rs.length k = some j ∧ rs.set j r = qs := by
  cases h with
  | zero => exact ⟨0, by unfold ixN; rw [if_pos (by decide), if_pos (by rw [List.length_cons]; omega)]; rfl, rfl⟩
  | one => exact ⟨1, by unfold ixN; rw [if_pos (by decide), if_pos (by rw [List.length_cons, List.length_cons]; omega)]; rfl, rfl⟩
  | two => exact ⟨2, by unfold ixN; rw [if_pos (by decide), if_pos (by rw [List.length_cons, List.length_cons, List.length_cons]; omega)]; rfl, rfl⟩
  | any h => exact ⟨_, h, rfl⟩
theorem sIx {o i e : Expr} {p1 pos : Pos} (h1 : swapsWithSole [.Subscript o i p1] e pos.line X.env = pure false) (h2 : swappedStores [.Subscript o i p1] e X.env = pure none) (h3 : (assignEach [.Subscript o i p1] X.env).map (·.2) = [assign (.Subscript o i p1) X.env])
    (h4 : ∀ v, assign (.Subscript o i p1) X.env v = (do let ov ← holding [v] (eval o X.env); let iv ← holding [v, ov] (eval i X.env); standAt p1; holding [v, ov, iv] (setItem ov iv v); release [v, ov, iv] []))
    (h : GE X e ρ M (fun r M1 => GE X o ρ M1 (fun x M2 => GE X i ρ M2 (fun y M3 => ∃ p k rs qs M4, x = .cell p ∧ y = .d (.int k) ∧ Cell p (Is rs) (Is qs) M3 M4 ∧ IxSet r k rs qs ∧ nx ρ M4) xx) xx) xx) :
    GS X (.Assign [.Subscript o i p1] e pos) ρ M ⟨nx, rt, bk, ct, xx⟩ :=
  setix_at h1 h2 h3 h4 (ge_mono h fun r M1 ho => ge_mono ho fun x M2 hi => ge_mono hi fun y M3 ⟨p, k, rs, qs, M4, e1, e2, c, s, z⟩ => by
    obtain ⟨j, e3, e4⟩ := s.eq
    subst e4
    exact ⟨p, rs, k, j, M4, e1, e2, c, e3, z⟩)
theorem sFor {tg iter : Expr} {body : List Stmt} {pos : Pos} (hp : PassesOwn (model X.prog X.w) X.A X.env X.xe) (hc : X.calm = true) (hf : ∀ x, foldedSetIterable iter X.env x = pure x)
    (h : GI X tg iter ρ M (fun items M1 => ForD X tg body ⟨nx, rt, bk, ct, xx⟩ items ρ M1) xx) : GS X (.For tg iter body [] pos) ρ M ⟨nx, rt, bk, ct, xx⟩ := gs_for hp hc hf h
theorem gName {i : Nat} {x : Str} {pos : Pos} {r : Rv} {Ψ : List Rv → Mem → Prop} {vs : List Nat} (hv : Var X i x) (nd : X.N.Nodup) (hvs : vs = [] ∨ i ∈ vs) {ρ' : List Rv} (s : SetAt r i ρ ρ')
    (h : Ψ ρ' M) : GG X (.Name x pos) r ρ M Ψ vs := gg_name nd hv.n hv.l (.inl hv.f) hvs (by rw [s.eq]; exact h)
theorem for_map {α : Type} {tg : Expr} {body : List Stmt} {xs : List α} {g : α → Rv} (Iv : List α → List Rv → Mem → Prop) (h0 : Iv [] ρ M)
    (hs : ∀ pre x post ρ' M', xs = pre ++ x :: post → Iv pre ρ' M' → GG X tg (g x) ρ' M' (fun ρ2 M2 => GSs X body ρ2 M2 ⟨Iv (pre ++ [x]), rt, nx, Iv (pre ++ [x]), xx⟩) [])
    (hd : ∀ ρ' M', Iv xs ρ' M' → nx ρ' M') : ForD X tg body ⟨nx, rt, bk, ct, xx⟩ (xs.map g) ρ M := forD_map Iv h0 hs hd
end
/-! an item, whatever holds it -/
def GIx (X : Cx) (x y : Rv) (M : Mem) (Φ : Pst) : Prop := ∀ B H v w, Ok X.K B H M → RvOk X.K B v x → RvOk X.K B w y → (rIxL X.K v w H (PostE X.K B H M Φ) ∨ rIxT X.K v w H (PostE X.K B H M Φ) ∨ rIxS v w H (PostE X.K B H M Φ))
theorem ge_ix {a b : Expr} {pos : Pos} (hp : PlainIx b) (ha : GE X a ρ M (fun x M1 => GE X b ρ M1 (fun y M2 => GIx X x y M2 Φ) Ξ) Ξ) : GE X (.Subscript a b pos) ρ M Φ Ξ := fun B H σ ok env tk =>
  eS_of (pe_ix ix_seq pe_S pe_S hp) (one ha ok env tk fun v H1 B1 M1 r o1 f1 q1 hb => one hb o1 (env_mono f1.ex env) (tk_after tk f1) fun w H2 B2 M2 r2 o2 f2 q2 k => by
    rcases k B2 H2 v w o2 (rv_mono f2.ex q1) q2 with ⟨p, xs, i, z, e1, e2, h1, h2, h3⟩ | ⟨p, xs, i, z, e1, e2, h1, h2, h3⟩ | ⟨p, i, z, e1, e2, h0, h1, h2⟩
    · exact .inl ⟨p, xs, i, z, e1, e2, h1, h2, postE_after (f1.trans f2) h3⟩
    · exact .inr (.inl ⟨p, xs, i, z, e1, e2, h1, h2, postE_after (f1.trans f2) h3⟩)
    · exact .inr (.inr ⟨p, i, z, e1, e2, h0, h1, postE_after (f1.trans f2) h2⟩))
theorem ix_l {ds : List PyData} {i : Int} {d : PyData} (h : atI ds i = some d) (k : Φ (.d d) M) : GIx X (.d (.list ds)) (.d (.int i)) M Φ := fun B H v w ok q1 q2 => by
  cases q1 with
  | d q1 => cases q1 with
    | lst hs ha =>
      unfold atI at h
      obtain ⟨j, h1, h2⟩ := Option.bind_eq_some_iff.mp h
      obtain ⟨x, h3, h4⟩ := DpAll.get j d ha h2
      refine .inl ⟨_, _, i, x, rfl, int_of q2, ok.ext.seq hs, ?_, post_same ok (.d h4) k⟩
      unfold atI
      rw [DpAll.len ha, h1]
      exact h3
theorem ix_t {ds : List PyData} {i : Int} {d : PyData} (h : atI ds i = some d) (k : Φ (.d d) M) : GIx X (.d (.tuple ds)) (.d (.int i)) M Φ := fun B H v w ok q1 q2 => by
  cases q1 with
  | d q1 => cases q1 with
    | tup hs ha =>
      unfold atI at h
      obtain ⟨j, h1, h2⟩ := Option.bind_eq_some_iff.mp h
      obtain ⟨x, h3, h4⟩ := DpAll.get j d ha h2
      refine .inr (.inl ⟨_, _, i, x, rfl, int_of q2, sq_mono ok.ext hs, ?_, post_same ok (.d h4) k⟩)
      unfold atI
      rw [DpAll.len ha, h1]
      exact h3
theorem ix_u {rs : List Rv} {i : Int} {r : Rv} (h : atI rs i = some r) (k : Φ r M) : GIx X (.tup rs) (.d (.int i)) M Φ := fun B H v w ok q1 q2 => by
  cases q1 with
  | tup hs ha =>
      unfold atI at h
      obtain ⟨j, h1, h2⟩ := Option.bind_eq_some_iff.mp h
      obtain ⟨x, h3, h4⟩ := RvAll.get j r ha h2
      refine .inr (.inl ⟨_, _, i, x, rfl, int_of q2, sq_mono ok.ext hs, ?_, post_same ok h4 k⟩)
      unfold atI
      rw [ha.length, h1]
      exact h3
theorem ix_c {p : Addr} {rs : List Rv} {i : Int} {r : Rv} (hm : Has p (Is rs) M) (h : atI rs i = some r) (k : Φ r M) : GIx X (.cell p) (.d (.int i)) M Φ := fun B H v w ok q1 q2 => by
  cases q1
  obtain ⟨_, xs, rs', hH, hx, hP⟩ := ok.mem _ hm.mem
  have e : rs' = rs := hP
  subst e
  unfold atI at h
  obtain ⟨j, h1, h2⟩ := Option.bind_eq_some_iff.mp h
  obtain ⟨x, h3, h4⟩ := RvAll.get j r hx h2
  refine .inl ⟨_, _, i, x, rfl, int_of q2, .of hH, ?_, post_same ok h4 k⟩
  unfold atI
  rw [hx.length, h1]
  exact h3
/-- a written text's sign -/
theorem ix_s {z : Str} {i : Int} {c : Nat} (hz : z.length ≤ sizeLine) (h : atI z.cps.toList i = some c) (k : Φ (.d (.str ⟨#[c]⟩)) M) : GIx X (.d (.str z)) (.d (.int i)) M Φ := fun B H v w ok q1 q2 =>
  .inr (.inr ⟨z, i, c, str_of q1, int_of q2, hz, h, post_same ok (.d (.str _)) k⟩)
end
/-! existentials, by lemmas (what is found by the side goals) -/
section
variable {Pr : Prop}
theorem ex_set {r : Rv} {i : Nat} {ρ ρ' : List Rv} {Q : List Rv → Prop} (s : SetAt r i ρ ρ') (h : Q ρ') : ∃ ρ', SetAt r i ρ ρ' ∧ Q ρ' := ⟨ρ', s, h⟩
theorem ex_par {r q : Rv} {i j : Nat} {ρ ρ1 ρ2 : List Rv} {Q : List Rv → Prop} (s : SetAt r i ρ ρ1) (t : SetAt q j ρ1 ρ2) (h : Q ρ2) : ∃ r' q' ρ1 ρ2, [r, q] = [r', q'] ∧ SetAt r' i ρ ρ1 ∧ SetAt q' j ρ1 ρ2 ∧ Q ρ2 := ⟨r, q, ρ1, ρ2, rfl, s, t, h⟩
theorem ex_ix {r : Rv} {a : Addr} {k : Int} {rs qs : List Rv} {M M4 : Mem} {Q : Mem → Prop} (c : Cell a (Is rs) (Is qs) M M4) (s : IxSet r k rs qs) (h : Q M4) : ∃ p k' rs qs M4, Rv.cell a = .cell p ∧ Rv.d (.int k) = .d (.int k') ∧ Cell p (Is rs) (Is qs) M M4 ∧ IxSet r k' rs qs ∧ Q M4 := ⟨a, k, rs, qs, M4, rfl, rfl, c, s, h⟩
theorem ex_data {rs : List Rv} {ds : List PyData} {Q : List PyData → Prop} (c : DataL rs ds) (z : ds.length ≤ sizeLine) (h : Q ds) : ∃ ds, DataL rs ds ∧ ds.length ≤ sizeLine ∧ Q ds := ⟨ds, c, z, h⟩
theorem ex_cell {a : Addr} {P : List Rv → Prop} {M : Mem} {Q : Addr → Prop} (c : Has a P M) (h : Q a) : ∃ p P, Rv.cell a = .cell p ∧ Has p P M ∧ Q p := ⟨a, P, rfl, c, h⟩
theorem ex_app {a : Addr} {rs : List Rv} {r : Rv} {M M3 : Mem} {Q : Mem → Prop} (c : Cell a (Is rs) (Is (rs ++ [r])) M M3) (z : rs.length < sizeLine) (h : Q M3) : ∃ rs M3, Cell a (Is rs) (Is (rs ++ [r])) M M3 ∧ rs.length < sizeLine ∧ Q M3 := ⟨rs, M3, c, z, h⟩
theorem ex_bool {c : Bool} {Q : Bool → Prop} (h : Q c) : ∃ c', Rv.d (.bool c) = .d (.bool c') ∧ Q c' := ⟨c, rfl, h⟩
theorem ex_int {c : Int} {Q : Int → Prop} (h : Q c) : ∃ c', Rv.d (.int c) = .d (.int c') ∧ Q c' := ⟨c, rfl, h⟩
theorem ex_list {c : List PyData} {Q : List PyData → Prop} (h : Q c) : ∃ c', Rv.d (.list c) = .d (.list c') ∧ Q c' := ⟨c, rfl, h⟩
theorem ex_tuple {c : List PyData} {Q : List PyData → Prop} (h : Q c) : ∃ c', Rv.d (.tuple c) = .d (.tuple c') ∧ Q c' := ⟨c, rfl, h⟩
theorem ex_rng {j : Int} {Q : Int → Prop} (h1 : -(2 ^ 62) ≤ j) (h2 : j < 2 ^ 62) (h : Q j) : ∃ j', [Rv.d (.int j)] = [.d (.int j')] ∧ -(2 ^ 62) ≤ j' ∧ j' < 2 ^ 62 ∧ Q j' := ⟨j, rfl, h1, h2, h⟩
end
/-- lists of ints, pairs -/
abbrev dI (xs : List Int) : PyData := .list (xs.map .int)
abbrev dP (a : Int) (xs : List Int) : PyData := .tuple [.int a, dI xs]
end Dl

set_option Elab.async false
set_option linter.all false
set_option maxRecDepth 100000
set_option maxHeartbeats 4000000
namespace Dl
open PySem PySem.Spec PyProof.Rows L2
section
variable {X : Cx} {N : List Str} {sc : Scope} {ρ : List Rv} {M : Mem} {Φ : Pst} {Ξ : Xi} {nx : List Rv → Mem → Prop} {rt : Pst} {bk ct : List Rv → Mem → Prop} {xx : Xi}
/-- a flag: lists written behind return may change -/
def OwnRet (X : Cx) : Prop := True
theorem sRetO {es : List Expr} {p pos : Pos} (f : OwnRet X) (h : GA X es ρ M (fun rs M1 => rs.length ≤ sizeLine ∧ ∀ q, ∃ M2, Le ((q, Is rs) :: M1) M2 ∧ rt (.cell q) M2) xx) : GS X (.Return (some (.List es p)) pos) ρ M ⟨nx, rt, bk, ct, xx⟩ := sRet (ge_own h)
/-- a name whose list may change -/
inductive MuAt : Nat → List Rv → Prop
  | m {ρ : List Rv} : MuAt 0 (.mu :: ρ)
  | c {a : Addr} {ρ : List Rv} : MuAt 0 (.cell a :: ρ)
  | s {i : Nat} {x : Rv} {ρ : List Rv} : MuAt i ρ → MuAt (i + 1) (x :: ρ)
theorem sSetO {i : Nat} {x : Str} {es : List Expr} {p pos pos' : Pos} (hv : Var X i x) (nd : X.N.Nodup) (m : MuAt i ρ) (h : GA X es ρ M (fun rs M1 => rs.length ≤ sizeLine ∧ ∀ q, ∃ ρ', SetAt (.cell q) i ρ ρ' ∧ nx ρ' ((q, Is rs) :: M1)) xx) :
    GS X (.Assign [.Name x pos'] (.List es p) pos) ρ M ⟨nx, rt, bk, ct, xx⟩ := sSet hv nd rfl (ge_own h)
theorem sParN2 {i j : Nat} {x y : Str} {a : Expr} {px py pt pt2 pl pos : Pos} {kt k2 : Nat} (hx : Var X i x) (hy : Var X j y) (hc : X.calm = true) (nd : X.N.Nodup) (hij : i ≠ j) (lx : X.env.scope.names.lookup x = some .local) (ly : X.env.scope.names.lookup y = some .local)
    (hs : swappedStores [.Tuple [.Name x px, .Name y py] kt pt] (.Tuple [a, .List [] pl] k2 pt2) X.env = pure (some [x, y])) (hw : swapsWithSole [.Tuple [.Name x px, .Name y py] kt pt] (.Tuple [a, .List [] pl] k2 pt2) pos.line X.env = pure false) (hst : starEach [a, .List [] pl] X.env = (false, eval a X.env) :: starEach [.List [] pl] X.env)
    (h : GE X a ρ M (fun r M1 => ∀ p, ∃ ρ1, SetAt r i ρ ρ1 ∧ ∃ ρ2, SetAt (.cell p) j ρ1 ρ2 ∧ nx ρ2 ((p, Is []) :: M1)) xx) : GS X (.Assign [.Tuple [.Name x px, .Name y py] kt pt] (.Tuple [a, .List [] pl] k2 pt2) pos) ρ M ⟨nx, rt, bk, ct, xx⟩ :=
  sPar hx hy hc nd hij lx ly hs hw (ga_cons hst (ge_mono h fun r M1 k => ga_cons rfl (ge_own (ga_nil ⟨Nat.zero_le _, fun p => ga_nil (let ⟨ρ1, s1, ρ2, s2, k⟩ := k p; ⟨r, .cell p, ρ1, ρ2, rfl, s1, s2, k⟩)⟩))))
theorem sParN1 {i j : Nat} {x y : Str} {a : Expr} {px py pt pt2 pl pos : Pos} {kt k2 : Nat} (hx : Var X i x) (hy : Var X j y) (hc : X.calm = true) (nd : X.N.Nodup) (hij : i ≠ j) (lx : X.env.scope.names.lookup x = some .local) (ly : X.env.scope.names.lookup y = some .local)
    (hs : swappedStores [.Tuple [.Name x px, .Name y py] kt pt] (.Tuple [.List [] pl, a] k2 pt2) X.env = pure (some [x, y])) (hw : swapsWithSole [.Tuple [.Name x px, .Name y py] kt pt] (.Tuple [.List [] pl, a] k2 pt2) pos.line X.env = pure false) (hst : starEach [a] X.env = [(false, eval a X.env)])
    (h : ∀ p, GE X a ρ ((p, Is []) :: M) (fun r M1 => ∃ ρ1, SetAt (.cell p) i ρ ρ1 ∧ ∃ ρ2, SetAt r j ρ1 ρ2 ∧ nx ρ2 M1) xx) : GS X (.Assign [.Tuple [.Name x px, .Name y py] kt pt] (.Tuple [.List [] pl, a] k2 pt2) pos) ρ M ⟨nx, rt, bk, ct, xx⟩ :=
  sPar hx hy hc nd hij lx ly hs hw (ga_cons rfl (ge_own (ga_nil ⟨Nat.zero_le _, fun p => ga_cons hst (ge_mono (h p) fun r M1 ⟨ρ1, s1, ρ2, s2, k⟩ => ga_nil ⟨.cell p, r, ρ1, ρ2, rfl, s1, s2, k⟩)⟩)))
/-- three names, the first one a list that may change -/
theorem sPar3N {i j l : Nat} {x y z : Str} {b c : Expr} {px py pz pt pt2 pl pos : Pos} {kt k2 : Nat} (hx : Var X i x) (hy : Var X j y) (hz : Var X l z) (hc : X.calm = true) (nd : X.N.Nodup) (hij : i ≠ j) (hil : i ≠ l) (hjl : j ≠ l)
    (lx : X.env.scope.names.lookup x = some .local) (ly : X.env.scope.names.lookup y = some .local) (lz : X.env.scope.names.lookup z = some .local)
    (hs : swappedStores [.Tuple [.Name x px, .Name y py, .Name z pz] kt pt] (.Tuple [.List [] pl, b, c] k2 pt2) X.env = pure (some [x, y, z])) (hw : swapsWithSole [.Tuple [.Name x px, .Name y py, .Name z pz] kt pt] (.Tuple [.List [] pl, b, c] k2 pt2) pos.line X.env = pure false)
    (hst : starEach [b, c] X.env = (false, eval b X.env) :: starEach [c] X.env) (hst2 : starEach [c] X.env = [(false, eval c X.env)])
    (h : ∀ p, GE X b ρ ((p, Is []) :: M) (fun r M1 => GE X c ρ M1 (fun q M2 => ∃ ρ1, SetAt (.cell p) i ρ ρ1 ∧ ∃ ρ2, SetAt r j ρ1 ρ2 ∧ ∃ ρ3, SetAt q l ρ2 ρ3 ∧ nx ρ3 M2) xx) xx) :
    GS X (.Assign [.Tuple [.Name x px, .Name y py, .Name z pz] kt pt] (.Tuple [.List [] pl, b, c] k2 pt2) pos) ρ M ⟨nx, rt, bk, ct, xx⟩ := fun B H σ ok env tk => by
  have hh : GA X [.List [] pl, b, c] ρ M (fun rs M1 => ∃ p r q, rs = [.cell p, r, q] ∧ ∃ ρ1, SetAt (.cell p) i ρ ρ1 ∧ ∃ ρ2, SetAt r j ρ1 ρ2 ∧ ∃ ρ3, SetAt q l ρ2 ρ3 ∧ nx ρ3 M1) xx :=
    ga_cons rfl (ge_own (ga_nil ⟨Nat.zero_le _, fun p => ga_cons hst (ge_mono (h p) fun r M1 k => ga_cons hst2 (ge_mono k fun q M2 k => ga_nil ⟨p, r, q, rfl, k⟩))⟩))
  refine sS_of (ps_par3 hc nd hx.n hy.n hz.n hij hil hjl lx ly lz pa_S hs hw) (args hh ok env tk fun vs H1 B1 M1 rs o1 f1 q1 ⟨p, r, q, e, ρ1, s1, ρ2, s2, ρ3, s3, k⟩ => ?_)
  subst e
  cases q1 with
  | cons q1 t => cases t with
    | cons q2 t => cases t with
      | cons q3 t =>
        cases t
        refine ⟨_, _, _, rfl, B1, M1, ρ3, o1, f1, ?_, k⟩
        rw [← s3.eq, ← s2.eq, ← s1.eq]
        exact env_set (.some q3) l (env_set (.some q2) j (env_set (.some q1) i (env_mono f1.ex env)))
/-! facts of the def's scope -/
theorem swap_scope {ts : List Expr} {v : Expr} {e1 e2 : Env} (h : e1.scope = e2.scope) : swappedStores ts v e1 = swappedStores ts v e2 := by
  unfold swappedStores Env.kindOf Env.blockKind
  rw [h]
abbrev dumE (sc : Scope) : Env := { scope := sc, globals := 0, locals := 0, cells := [] }
theorem Cxt.swap (cx : Cxt X N sc) {ts : List Expr} {v : Expr} {r : Sem (Option (List Str))} (h : swappedStores ts v (dumE sc) = r) : swappedStores ts v X.env = r := by
  rw [swap_scope (e2 := (dumE sc)) cx.sc]
  exact h
theorem Cxt.loc (cx : Cxt X N sc) {x : Str} (h : sc.names.lookup x = some .local) : X.env.scope.names.lookup x = some .local := by
  rw [cx.sc]; exact h
theorem Cxt.blk (cx : Cxt X N sc) {scope : Scope} {own : List (Str × Nat)} (h : blkC N sc scope own = true) : BlkOk X.N X.env.scope scope own := by
  rw [cx.hN, cx.sc]; exact blkOk_by h
theorem Cxt.sw (cx : Cxt X N sc) {elt : Expr} {gs : List Comprehension} {scope : Scope} {pos py : Pos} {y : Str} {l : Nat} (hk : sc.kind = .function) (hy : sc.names.lookup y = some .local) (hl : (py.line == pos.line) = true)
    (ha : (scope.names.any fun (n, k) => n == y && (k == .local || k == .cell)) = false) : swapsWith (.ListComp elt gs scope pos) (some (.Name y py)) l X.env = pure true := sw_true (by rw [cx.sc]; exact hk) (by rw [cx.sc]; exact hy) hl ha
/-! items at open places -/
theorem at_map {α β : Type} {xs : List α} {g : α → β} {k : Int} (h0 : 0 ≤ k) (h1 : k < xs.length) : atI (xs.map g) k = some (g (xs[k.toNat]'(by omega))) := by
  unfold atI ixN
  rw [if_pos h0, List.length_map, if_pos h1]
  simp
  exact ⟨_, List.getElem?_eq_getElem (by omega), rfl⟩
theorem at_lit {α : Type} {xs : List α} {k : Int} (h0 : 0 ≤ k) (h1 : k < xs.length) : atI xs k = some (xs[k.toNat]'(by omega)) := by
  unfold atI ixN
  rw [if_pos h0, if_pos h1]
  simp
/-- an item at an open place of a written list: whatever holds for each of them -/
theorem ix_any {ds : List PyData} {i : Int} (h0 : 0 ≤ i) (h1 : i < ds.length) (k : ∀ d ∈ ds, Φ (.d d) M) : GIx X (.d (.list ds)) (.d (.int i)) M Φ := ix_l (at_lit h0 h1) (k _ (List.getElem_mem _))
theorem gc_lenI {xs : List Int} (h : Φ (.d (.int xs.length)) M) : GC X (.builtin "len") [.d (dI xs)] M Φ := gc_lenL (by rw [List.length_map]; exact h)
theorem ix_dI {xs : List Int} {i : Int} (h0 : 0 ≤ i) (h1 : i < xs.length) (k : ∀ v, xs[i.toNat]? = some v → Φ (.d (.int v)) M) : GIx X (.d (dI xs)) (.d (.int i)) M Φ :=
  ix_l (at_map h0 h1) (k _ (List.getElem?_eq_getElem (by omega)))
theorem ix_dIlast {xs : List Int} {v : Int} (h : xs.getLast? = some v) (k : Φ (.d (.int v)) M) : GIx X (.d (dI xs)) (.d (.int (-1))) M Φ := by
  obtain ⟨ys, rfl⟩ : ∃ ys, xs = ys ++ [v] := by
    cases xs with
    | nil => simp at h
    | cons a t => exact ⟨(a :: t).dropLast, by rw [List.getLast?_eq_some_getLast (by simp)] at h; cases h; exact (List.dropLast_concat_getLast (by simp)).symm⟩
  refine ix_l (d := .int v) ?_ k
  rw [List.map_append]
  exact atI_last _ _
/-- a written list of ints of one kind -/
inductive MenuP (P : Int → Prop) : List PyData → Prop
  | nil : MenuP P []
  | cons {i : Int} {ds : List PyData} : P i → MenuP P ds → MenuP P (.int i :: ds)
theorem MenuP.mem {P : Int → Prop} {ds : List PyData} (h : MenuP P ds) : ∀ d ∈ ds, ∃ i, d = .int i ∧ P i := by
  induction h with
  | nil => intro d hd; cases hd
  | cons hi _ ih => intro d hd; rcases List.mem_cons.mp hd with rfl | hd; exact ⟨_, rfl, hi⟩; exact ih d hd
theorem ix_menu {ds : List PyData} {i : Int} (P : Int → Prop) (h0 : 0 ≤ i) (h1 : i < ds.length) (hP : MenuP P ds) (k : ∀ v, P v → Φ (.d (.int v)) M) : GIx X (.d (.list ds)) (.d (.int i)) M Φ :=
  ix_any h0 h1 fun d hd => by obtain ⟨v, rfl, hv⟩ := hP.mem d hd; exact k v hv
abbrev rI (xs : List Int) : List Rv := xs.map fun i => .d (.int i)
theorem rI_d (xs : List Int) : (xs.map PyData.int).map Rv.d = rI xs := by rw [List.map_map]; rfl
theorem rI_app (xs ys : List Int) : rI (xs ++ ys) = rI xs ++ rI ys := List.map_append
theorem gi_tupD {tg : Expr} {es : List Expr} {k : Nat} {pos : Pos} {Θ : List Rv → Mem → Prop} (h : GE X (.Tuple es k pos) ρ M (fun r M1 => ∃ ds, r = .d (.tuple ds) ∧ Θ (ds.map Rv.d) M1) Ξ) : GI X tg (.Tuple es k pos) ρ M Θ Ξ := gi_tup h
theorem for_ints {tg : Expr} {body : List Stmt} {xs : List Int} (Iv : List Int → List Rv → Mem → Prop) (h0 : Iv [] ρ M)
    (hs : ∀ pre x post ρ' M', xs = pre ++ x :: post → Iv pre ρ' M' → GG X tg (.d (.int x)) ρ' M' (fun ρ2 M2 => GSs X body ρ2 M2 ⟨Iv (pre ++ [x]), rt, nx, Iv (pre ++ [x]), xx⟩) [])
    (hd : ∀ ρ' M', Iv xs ρ' M' → nx ρ' M') : ForD X tg body ⟨nx, rt, bk, ct, xx⟩ ((xs.map PyData.int).map Rv.d) ρ M := by
  rw [rI_d]
  exact for_map Iv h0 hs hd
theorem isi_none_int (h : Φ (.d (.bool false)) M) : GC X (.builtin "isinstance") [.d .none, .raw (.ty "int")] M Φ := gc_isi (b := false) (show kitB "NoneType" "int" = some false by decide +kernel) h
theorem isi_none_bool (h : Φ (.d (.bool false)) M) : GC X (.builtin "isinstance") [.d .none, .raw (.ty "bool")] M Φ := gc_isi (b := false) (show kitB "NoneType" "bool" = some false by decide +kernel) h
theorem isi_none_list (h : Φ (.d (.bool false)) M) : GC X (.builtin "isinstance") [.d .none, .raw (.ty "list")] M Φ := gc_isi (b := false) (show kitB "NoneType" "list" = some false by decide +kernel) h
theorem isi_none_tuple (h : Φ (.d (.bool false)) M) : GC X (.builtin "isinstance") [.d .none, .raw (.ty "tuple")] M Φ := gc_isi (b := false) (show kitB "NoneType" "tuple" = some false by decide +kernel) h
theorem isi_none_str (h : Φ (.d (.bool false)) M) : GC X (.builtin "isinstance") [.d .none, .raw (.ty "str")] M Φ := gc_isi (b := false) (show kitB "NoneType" "str" = some false by decide +kernel) h
theorem isi_bool_int {b : Bool} (h : Φ (.d (.bool true)) M) : GC X (.builtin "isinstance") [.d (.bool b), .raw (.ty "int")] M Φ := gc_isi (b := true) (show kitB "bool" "int" = some true by decide +kernel) h
theorem isi_bool_bool {b : Bool} (h : Φ (.d (.bool true)) M) : GC X (.builtin "isinstance") [.d (.bool b), .raw (.ty "bool")] M Φ := gc_isi (b := true) (show kitB "bool" "bool" = some true by decide +kernel) h
theorem isi_bool_list {b : Bool} (h : Φ (.d (.bool false)) M) : GC X (.builtin "isinstance") [.d (.bool b), .raw (.ty "list")] M Φ := gc_isi (b := false) (show kitB "bool" "list" = some false by decide +kernel) h
theorem isi_bool_tuple {b : Bool} (h : Φ (.d (.bool false)) M) : GC X (.builtin "isinstance") [.d (.bool b), .raw (.ty "tuple")] M Φ := gc_isi (b := false) (show kitB "bool" "tuple" = some false by decide +kernel) h
theorem isi_bool_str {b : Bool} (h : Φ (.d (.bool false)) M) : GC X (.builtin "isinstance") [.d (.bool b), .raw (.ty "str")] M Φ := gc_isi (b := false) (show kitB "bool" "str" = some false by decide +kernel) h
theorem isi_int_int {i : Int} (h : Φ (.d (.bool true)) M) : GC X (.builtin "isinstance") [.d (.int i), .raw (.ty "int")] M Φ := gc_isi (b := true) (show kitB "int" "int" = some true by decide +kernel) h
theorem isi_int_bool {i : Int} (h : Φ (.d (.bool false)) M) : GC X (.builtin "isinstance") [.d (.int i), .raw (.ty "bool")] M Φ := gc_isi (b := false) (show kitB "int" "bool" = some false by decide +kernel) h
theorem isi_int_list {i : Int} (h : Φ (.d (.bool false)) M) : GC X (.builtin "isinstance") [.d (.int i), .raw (.ty "list")] M Φ := gc_isi (b := false) (show kitB "int" "list" = some false by decide +kernel) h
theorem isi_int_tuple {i : Int} (h : Φ (.d (.bool false)) M) : GC X (.builtin "isinstance") [.d (.int i), .raw (.ty "tuple")] M Φ := gc_isi (b := false) (show kitB "int" "tuple" = some false by decide +kernel) h
theorem isi_int_str {i : Int} (h : Φ (.d (.bool false)) M) : GC X (.builtin "isinstance") [.d (.int i), .raw (.ty "str")] M Φ := gc_isi (b := false) (show kitB "int" "str" = some false by decide +kernel) h
theorem isi_str_int {s : Str} (h : Φ (.d (.bool false)) M) : GC X (.builtin "isinstance") [.d (.str s), .raw (.ty "int")] M Φ := gc_isi (b := false) (show kitB "str" "int" = some false by decide +kernel) h
theorem isi_str_bool {s : Str} (h : Φ (.d (.bool false)) M) : GC X (.builtin "isinstance") [.d (.str s), .raw (.ty "bool")] M Φ := gc_isi (b := false) (show kitB "str" "bool" = some false by decide +kernel) h
theorem isi_str_list {s : Str} (h : Φ (.d (.bool false)) M) : GC X (.builtin "isinstance") [.d (.str s), .raw (.ty "list")] M Φ := gc_isi (b := false) (show kitB "str" "list" = some false by decide +kernel) h
theorem isi_str_tuple {s : Str} (h : Φ (.d (.bool false)) M) : GC X (.builtin "isinstance") [.d (.str s), .raw (.ty "tuple")] M Φ := gc_isi (b := false) (show kitB "str" "tuple" = some false by decide +kernel) h
theorem isi_str_str {s : Str} (h : Φ (.d (.bool true)) M) : GC X (.builtin "isinstance") [.d (.str s), .raw (.ty "str")] M Φ := gc_isi (b := true) (show kitB "str" "str" = some true by decide +kernel) h
theorem isi_list_int {l : List PyData} (h : Φ (.d (.bool false)) M) : GC X (.builtin "isinstance") [.d (.list l), .raw (.ty "int")] M Φ := gc_isi (b := false) (show kitB "list" "int" = some false by decide +kernel) h
theorem isi_list_bool {l : List PyData} (h : Φ (.d (.bool false)) M) : GC X (.builtin "isinstance") [.d (.list l), .raw (.ty "bool")] M Φ := gc_isi (b := false) (show kitB "list" "bool" = some false by decide +kernel) h
theorem isi_list_list {l : List PyData} (h : Φ (.d (.bool true)) M) : GC X (.builtin "isinstance") [.d (.list l), .raw (.ty "list")] M Φ := gc_isi (b := true) (show kitB "list" "list" = some true by decide +kernel) h
theorem isi_list_tuple {l : List PyData} (h : Φ (.d (.bool false)) M) : GC X (.builtin "isinstance") [.d (.list l), .raw (.ty "tuple")] M Φ := gc_isi (b := false) (show kitB "list" "tuple" = some false by decide +kernel) h
theorem isi_list_str {l : List PyData} (h : Φ (.d (.bool false)) M) : GC X (.builtin "isinstance") [.d (.list l), .raw (.ty "str")] M Φ := gc_isi (b := false) (show kitB "list" "str" = some false by decide +kernel) h
theorem isi_tuple_int {l : List PyData} (h : Φ (.d (.bool false)) M) : GC X (.builtin "isinstance") [.d (.tuple l), .raw (.ty "int")] M Φ := gc_isi (b := false) (show kitB "tuple" "int" = some false by decide +kernel) h
theorem isi_tuple_bool {l : List PyData} (h : Φ (.d (.bool false)) M) : GC X (.builtin "isinstance") [.d (.tuple l), .raw (.ty "bool")] M Φ := gc_isi (b := false) (show kitB "tuple" "bool" = some false by decide +kernel) h
theorem isi_tuple_list {l : List PyData} (h : Φ (.d (.bool false)) M) : GC X (.builtin "isinstance") [.d (.tuple l), .raw (.ty "list")] M Φ := gc_isi (b := false) (show kitB "tuple" "list" = some false by decide +kernel) h
theorem isi_tuple_tuple {l : List PyData} (h : Φ (.d (.bool true)) M) : GC X (.builtin "isinstance") [.d (.tuple l), .raw (.ty "tuple")] M Φ := gc_isi (b := true) (show kitB "tuple" "tuple" = some true by decide +kernel) h
theorem isi_tuple_str {l : List PyData} (h : Φ (.d (.bool false)) M) : GC X (.builtin "isinstance") [.d (.tuple l), .raw (.ty "str")] M Φ := gc_isi (b := false) (show kitB "tuple" "str" = some false by decide +kernel) h
theorem isi_dict_int {l : List (PyData × PyData)} (h : Φ (.d (.bool false)) M) : GC X (.builtin "isinstance") [.d (.dict l), .raw (.ty "int")] M Φ := gc_isi (b := false) (show kitB "dict" "int" = some false by decide +kernel) h
theorem isi_dict_bool {l : List (PyData × PyData)} (h : Φ (.d (.bool false)) M) : GC X (.builtin "isinstance") [.d (.dict l), .raw (.ty "bool")] M Φ := gc_isi (b := false) (show kitB "dict" "bool" = some false by decide +kernel) h
theorem isi_dict_list {l : List (PyData × PyData)} (h : Φ (.d (.bool false)) M) : GC X (.builtin "isinstance") [.d (.dict l), .raw (.ty "list")] M Φ := gc_isi (b := false) (show kitB "dict" "list" = some false by decide +kernel) h
theorem isi_dict_tuple {l : List (PyData × PyData)} (h : Φ (.d (.bool false)) M) : GC X (.builtin "isinstance") [.d (.dict l), .raw (.ty "tuple")] M Φ := gc_isi (b := false) (show kitB "dict" "tuple" = some false by decide +kernel) h
theorem isi_dict_str {l : List (PyData × PyData)} (h : Φ (.d (.bool false)) M) : GC X (.builtin "isinstance") [.d (.dict l), .raw (.ty "str")] M Φ := gc_isi (b := false) (show kitB "dict" "str" = some false by decide +kernel) h
theorem ge_gint {x : Str} {i : Int} {pos : Pos} (hm : Glo X x (.int i)) (hg : Gl X x) (h : Φ (.d (.int i)) M) : GE X (.Name x pos) ρ M Φ Ξ := ge_glob hm (fun _ _ => .int i) hg h
theorem ex_zip {xs ys : List PyData} {Q : List PyData → List PyData → Prop} (h : Q xs ys) : ∃ a b, [Rv.d (.list xs), Rv.d (.list ys)] = [.d (.list a), .d (.list b)] ∧ Q a b := ⟨xs, ys, rfl, h⟩
theorem zip_ints (xs ys : List Int) : (((xs.map PyData.int).zip (ys.map PyData.int)).map fun p => Rv.d (.tuple [p.1, p.2])) = (xs.zip ys).map fun p => .d (.tuple [.int p.1, .int p.2]) := by
  rw [List.zip_map, List.map_map]; rfl
theorem gt_chain {a b c : Expr} {op op' : CmpOp} {pos : Pos} {Ψ : Bool → Mem → Prop} (hm : lastMarks [op, op'] [b, c] = false)
    (h : GE X a ρ M (fun x M1 => GE X b ρ M1 (fun y M2 => G2 X (compareOp op) x y M2 fun r M3 => ∃ k, r = .d (.bool k) ∧ (k = true → GE X c ρ M3 (fun z M4 => G2 X (compareOp op') y z M4 fun r M5 => ∃ k, r = .d (.bool k) ∧ Ψ k M5) Ξ) ∧ (k = false → Ψ false M3)) Ξ) Ξ) :
    GT X (.Compare a [op, op'] [b, c] pos) ρ M Ψ Ξ := fun B H σ ok env tk =>
  tS_of (pt_chain op_S op_S pe_S pe_S pe_S hm) (one h ok env tk fun v H1 B1 M1 r o1 f1 q1 hb => one hb o1 (env_mono f1.ex env) (tk_after tk f1) fun w H2 B2 M2 y o2 f2 q2 h2 =>
    oS_mono (h2 B2 H2 v w o2 (rv_mono f2.ex q1) q2) fun z H3 ⟨B3, M3, r3, o3, f3, q3, k, e, k1, k2⟩ => by
      subst e
      have f : Fr B H M B3 H3 M3 := (f1.trans f2).trans f3
      refine ⟨k, bool_of q3, ?_⟩
      cases k with
      | true => exact one (k1 rfl) o3 (env_mono f.ex env) (tk_after tk f) fun w4 H4 B4 M4 r4 o4 f4 q4 h4 => oS_mono (h4 B4 H4 w w4 o4 (rv_mono (f3.trans f4).ex q2) q4) fun z5 H5 ⟨B5, M5, r5, o5, f5, q5, k5, e5, kk⟩ => ⟨k5, by (subst e5; exact bool_of q5), B5, M5, o5, (f.trans f4).trans f5, kk⟩
      | false => exact ⟨false, rfl, B3, M3, o3, f, k2 rfl⟩)
/-! in a comprehension's block -/
section
variable {s : Shared} {H : Hp} {scp : Scope} {ce : Env} {fp : List Addr}
theorem bNm {i : Nat} {x : Str} (h : Nm X i x) : Nm (X.blk s H scp ce fp) i x := h
theorem bNd (h : X.N.Nodup) : (X.blk s H scp ce fp).N.Nodup := h
theorem bCalm (h : X.calm = true) : (X.blk s H scp ce fp).calm = true := h
theorem bBi {x : Str} {v : Value} (h : Bi X x v) : Bi (X.blk s H scp ce fp) x v := ⟨h.m, h.b, h.n, h.d⟩
theorem bGlo {x : Str} {v : V} (h : Glo X x v) : Glo (X.blk s H scp ce fp) x v := ⟨h.ex, h.d⟩
theorem bDef {x : Str} {k : Nat} {ps : List Str} {ord : List (List Str)} {pd : Prom} (h : Def X x k ps ord pd) : Def (X.blk s H scp ce fp) x k ps ord pd := ⟨h.ex, h.d⟩
theorem bRoom {k : Nat} (h : Room k X.A) : Room k (X.blk s H scp ce fp).A := h
theorem bGu (h : X.A.guards = some []) : (X.blk s H scp ce fp).A.guards = some [] := h
theorem bMg {x : Str} (h : X.mg x = none) : (X.blk s H scp ce fp).mg x = none := h
end
/-! targets: two names; names of a comprehension -/
theorem gg_two {i j : Nat} {x y : Str} {p1 p2 pos : Pos} {kk : Nat} {a b : PyData} {Ψ : List Rv → Mem → Prop} (hx : Var X i x) (hy : Var X j y) (nd : X.N.Nodup) (hc : X.calm = true) {ρ1 ρ2 : List Rv} (s : SetAt (.d a) i ρ ρ1) (t : SetAt (.d b) j ρ1 ρ2)
    (h : Ψ ρ2 M) : GG X (.Tuple [.Name x p1, .Name y p2] kk pos) (.d (.tuple [a, b])) ρ M Ψ [] :=
  gg_tup hc (.inr ⟨[a, b], rfl, rfl⟩) rfl rfl (ggs_cons nd hx.n hx.l (.inl hx.f) (.inl rfl) rfl (ggs_cons nd hy.n hy.l (.inl hy.f) (.inl rfl) rfl (ggs_nil (by rw [s.eq, t.eq]; exact h))))
theorem gNameC {i : Nat} {x : Str} {pos : Pos} {r : Rv} {Ψ : List Rv → Mem → Prop} {vs : List Nat} (hN : Nm X i x) (nd : X.N.Nodup) (hl : X.env.scope.names.lookup x = some .local) (hvs : i ∈ vs) {ρ' : List Rv} (s : SetAt r i ρ ρ')
    (h : Ψ ρ' M) : GG X (.Name x pos) r ρ M Ψ vs := gg_name nd hN (.inl hl) (.inr hl) (.inr hvs) (by rw [s.eq]; exact h)
theorem gg_twoC {i j : Nat} {x y : Str} {p1 p2 pos : Pos} {kk : Nat} {a b : PyData} {Ψ : List Rv → Mem → Prop} {vs : List Nat} (hx : Nm X i x) (hy : Nm X j y) (nd : X.N.Nodup) (hc : X.calm = true) (lx : X.env.scope.names.lookup x = some .local) (ly : X.env.scope.names.lookup y = some .local) (mi : i ∈ vs) (mj : j ∈ vs) {ρ1 ρ2 : List Rv} (s : SetAt (.d a) i ρ ρ1) (t : SetAt (.d b) j ρ1 ρ2)
    (h : Ψ ρ2 M) : GG X (.Tuple [.Name x p1, .Name y p2] kk pos) (.d (.tuple [a, b])) ρ M Ψ vs :=
  gg_tup hc (.inr ⟨[a, b], rfl, rfl⟩) rfl rfl (ggs_cons nd hx (.inl lx) (.inr lx) (.inr mi) rfl (ggs_cons nd hy (.inl ly) (.inr ly) (.inr mj) rfl (ggs_nil (by rw [s.eq, t.eq]; exact h))))
/-! what kind a value is -/
def isI : PyData → Bool
  | .int _ => true
  | _ => false
def atL (d : PyData) (k : Int) : Bool := match d with
  | .int i => decide (k ≤ i)
  | _ => false
def inRg (d : PyData) (k m : Int) : Bool := match d with
  | .int i => decide (k ≤ i) && decide (i ≤ m)
  | _ => false
def isT : PyData → Bool
  | .int i => !decide (i = 0)
  | _ => false
def is2 : PyData → Bool
  | .tuple xs => decide ((xs.length : Int) = 2)
  | _ => false
def pdIsI : Prom := fun rs M Φ _ => ∃ d : PyData, rs = [.d d] ∧ Φ (.d (.bool (isI d))) M
def pdAtL : Prom := fun rs M Φ _ => ∃ (d : PyData) (k : Int), rs = [.d d, .d (.int k)] ∧ Φ (.d (.bool (atL d k))) M
def pdInR : Prom := fun rs M Φ _ => ∃ (d : PyData) (k m : Int), rs = [.d d, .d (.int k), .d (.int m)] ∧ Φ (.d (.bool (inRg d k m))) M
def pdIsT : Prom := fun rs M Φ _ => ∃ d : PyData, rs = [.d d] ∧ Φ (.d (.bool (isT d))) M
def pdIs2 : Prom := fun rs M Φ _ => ∃ d : PyData, rs = [.d d] ∧ Φ (.d (.bool (is2 d))) M
theorem use_isI {d : PyData} {Ξ : EV → Mem → Prop} (h : Φ (.d (.bool (isI d))) M) : pdIsI [.d d] M Φ Ξ := ⟨d, rfl, h⟩
theorem use_atL {d : PyData} {k : Int} {Ξ : EV → Mem → Prop} (h : Φ (.d (.bool (atL d k))) M) : pdAtL [.d d, .d (.int k)] M Φ Ξ := ⟨d, k, rfl, h⟩
theorem use_inRg {d : PyData} {k m : Int} {Ξ : EV → Mem → Prop} (h : Φ (.d (.bool (inRg d k m))) M) : pdInR [.d d, .d (.int k), .d (.int m)] M Φ Ξ := ⟨d, k, m, rfl, h⟩
theorem use_isT {d : PyData} {Ξ : EV → Mem → Prop} (h : Φ (.d (.bool (isT d))) M) : pdIsT [.d d] M Φ Ξ := ⟨d, rfl, h⟩
theorem use_is2 {d : PyData} {Ξ : EV → Mem → Prop} (h : Φ (.d (.bool (is2 d))) M) : pdIs2 [.d d] M Φ Ξ := ⟨d, rfl, h⟩
/-! the laws' draws -/
def Coil (k : Nat) : List Rv → Prop := fun rs => ∃ a b n : Int, rs = [.d (.int a), .d (.int b), .d (.int n)] ∧ 0 ≤ a ∧ 0 ≤ b ∧ b < 10 ^ 27 ∧ 0 ≤ n ∧ n ≤ k
theorem Coil.mono {j k : Nat} (h : j ≤ k) : ∀ rs, Coil j rs → Coil k rs := fun rs ⟨a, b, n, e, h1, h2, h3, h4, h5⟩ => ⟨a, b, n, e, h1, h2, h3, h4, by omega⟩
def pdDraw : Prom := fun rs M Φ _ => ∃ c b k M', rs = [.cell c, .d (.int b)] ∧ 0 < b ∧ b < 10 ^ 60 ∧ Cell c (Coil k) (Coil (k + 1)) M M' ∧ k ≤ 1000000 ∧ ∀ r : Int, 0 ≤ r → r < b → Φ (.d (.int r)) M'
theorem use_draw {c : Addr} {b : Int} {k : Nat} {M M' : Mem} {Φ : Pst} {Ξ : EV → Mem → Prop} (hc : Cell c (Coil k) (Coil (k + 1)) M M') (h0 : 0 < b) (h1 : b < 10 ^ 60) (hk : k ≤ 1000000) (h : ∀ r : Int, 0 ≤ r → r < b → Φ (.d (.int r)) M') : pdDraw [.cell c, .d (.int b)] M Φ Ξ := ⟨c, b, k, M', rfl, h0, h1, hc, hk, h⟩
def pdCoil : Prom := fun rs M Φ _ => ∃ (xs : List Int) (k : Int), rs = [.d (dI xs), .d (.int k)] ∧ 0 ≤ k ∧ k ≤ 100 ∧ ∀ p, Φ (.cell p) ((p, Coil 0) :: M)
/-! what stands behind the top, without a body's context -/
structure DefG (P : Program) (w : World) (K : Frg) (mg : Str → Option Value) (base : Heap) (x : Str) (k : Nat) (ps : List Str) (ord : List (List Str)) (pd : Prom) : Prop where
  ex : ∃ f fd, FnD P w K mg base k f fd ps pd ∧ mg x = some (.ref f) ∧ PySem.W.keepIn K (.ref f) = true ∧
    (∀ us : List Value, us.length = ps.length → bindArgs fd ⟨us, []⟩ = pure (ps.zip us)) ∧
    ∀ ks ∈ ord, ∀ ws : List Value, ws.length = ks.length → bindArgs fd ⟨[], ks.zip ws⟩ = pure (ps.zip (pick ks ps ws))
  d : (x == ("__debug__" : Str)) = false
theorem DefG.df {x : Str} {j k : Nat} {ps : List Str} {ord : List (List Str)} {pd : Prom} (h : DefG X.prog X.w X.K X.mg X.base x j ps ord pd) (hk : j ≤ k) : Def X x k ps ord pd := Def.mono ⟨h.ex, h.d⟩ hk
/-- a promise that asks no more -/
theorem FnD.imp {P : Program} {w : World} {K : Frg} {mg : Str → Option Value} {base : Heap} {k : Nat} {f : Addr} {fd : FuncData} {ps : List Str} {pd pd' : Prom} (F : FnD P w K mg base k f fd ps pd) (h : ∀ rs M Φ Ξ, pd' rs M Φ Ξ → pd rs M Φ Ξ) : FnD P w K mg base k f fd ps pd' :=
  ⟨fun rs M Φ Ξ q => F.len rs M Φ Ξ (h _ _ _ _ q), fun A outer s H ar us vs Q E hr hg he hb r ⟨B, M, rs, Φ, Ξ, o, a, p, q1, q2⟩ => F.run A outer s H ar us vs Q E hr hg he hb r ⟨B, M, rs, Φ, Ξ, o, a, h _ _ _ _ p, q1, q2⟩⟩
structure GloG (mg : Str → Option Value) (x : Str) (v : V) : Prop where
  ex : ∃ u, mg x = some u ∧ RelV v u
  d : (x == ("__debug__" : Str)) = false
theorem GloG.glo {x : Str} {v : V} (h : GloG X.mg x v) : Glo X x v := ⟨h.ex, h.d⟩
theorem Bi.mk' {x : Str} {v : Value} (m : X.mg x = none) (b : bootBuiltins x = some v) (n : x ≠ "__name__") (d : (x == ("__debug__" : Str)) = false) : Bi X x v := ⟨m, b, n, d⟩
end
end Dl

set_option maxRecDepth 100000
set_option linter.unusedVariables false
namespace Dl
open PySem PySem.Spec PyProof.Rows L2
/-- a value's truth -/
inductive Tru : Rv → Mem → Bool → Prop
  | b {M : Mem} {c : Bool} : Tru (.d (.bool c)) M c
  | n {M : Mem} : Tru (.d .none) M false
  | l {M : Mem} {ds : List PyData} : Tru (.d (.list ds)) M (!ds.isEmpty)
  | t {M : Mem} {ds : List PyData} : Tru (.d (.tuple ds)) M (!ds.isEmpty)
  | c {M : Mem} {p : Addr} {rs : List Rv} (h : Has p (Is rs) M) : Tru (.cell p) M (!rs.isEmpty)
variable {X : Cx} {ρ : List Rv} {M : Mem} {Φ : Pst} {Ξ : Xi}
theorem isEmpty_len {α β : Type} {xs : List α} {ys : List β} (h : xs.length = ys.length) : xs.isEmpty = ys.isEmpty := by
  cases xs <;> cases ys <;> simp_all
theorem gt_tru {e : Expr} {Ψ : Bool → Mem → Prop} (hw : ∀ whole, isTrue e X.env whole = (do let v ← whole; standAt e.pos; holding [v] (truthy v))) (ha : GE X e ρ M (fun r M1 => ∃ k, Tru r M1 k ∧ Ψ k M1) Ξ) : GT X e ρ M Ψ Ξ :=
  fun B H σ ok env tk => tS_of (pt_truth pe_S hw) (one ha ok env tk fun v H1 B1 M1 r o1 f1 q1 ⟨k, t, q⟩ => by
    refine ⟨k, ?_, B1, M1, o1, f1, q⟩
    cases t with
    | b => rw [bool_of q1]; rfl
    | n => cases q1 with | d q => cases q; rfl
    | l => cases q1 with | d q => cases q with | lst hs ha => exact .inl ⟨_, o1.ext.seq hs, by rw [isEmpty_len (DpAll.len ha)]⟩
    | t => cases q1 with | d q => cases q with | tup hs ha => exact .inr (.inl ⟨_, sq_mono o1.ext hs, by rw [isEmpty_len (DpAll.len ha)]⟩)
    | c h =>
      cases q1
      obtain ⟨_, xs, rs, hH, hx, hP⟩ := o1.mem _ h.mem
      exact .inl ⟨_, .of hH, by rw [isEmpty_len hx.length, show rs = _ from hP]⟩)
theorem ex_tB {c : Bool} {Q : Bool → Prop} (h : Q c) : ∃ k, Tru (.d (.bool c)) M k ∧ Q k := ⟨_, .b, h⟩
theorem ex_tN {Q : Bool → Prop} (h : Q false) : ∃ k, Tru (.d .none) M k ∧ Q k := ⟨_, .n, h⟩
theorem ex_tL {c : List PyData} {Q : Bool → Prop} (h : Q (!c.isEmpty)) : ∃ k, Tru (.d (.list c)) M k ∧ Q k := ⟨_, .l, h⟩
theorem ex_tT {c : List PyData} {Q : Bool → Prop} (h : Q (!c.isEmpty)) : ∃ k, Tru (.d (.tuple c)) M k ∧ Q k := ⟨_, .t, h⟩
theorem ex_tC {p : Addr} {rs : List Rv} {Q : Bool → Prop} (hc : Has p (Is rs) M) (h : Q (!rs.isEmpty)) : ∃ k, Tru (.cell p) M k ∧ Q k := ⟨_, .c hc, h⟩
theorem ge_neg {a : Expr} {pos : Pos} (ha : GE X a ρ M (fun r M1 => ∃ i, r = .d (.int i) ∧ Φ (.d (.int (-i))) M1) Ξ) : GE X (.UnaryOp .USub a pos) ρ M Φ Ξ :=
  fun B H σ ok env tk => eS_of (pe_un un_neg pe_S) (one ha ok env tk fun v H1 B1 M1 r o1 f1 q1 ⟨i, e, k⟩ => by
    subst e
    exact ⟨i, int_of q1, B1, M1, _, o1, f1, .d (.int _), k⟩)
theorem ix_cL {p : Addr} {rs : List Rv} {r : Rv} (hm : Has p (Is (rs ++ [r])) M) (k : Φ r M) : GIx X (.cell p) (.d (.int (-1))) M Φ := ix_c hm (atI_last _ _) k
theorem ix_last {ds : List PyData} {d : PyData} (h : ds.getLast? = some d) (k : Φ (.d d) M) : GIx X (.d (.list ds)) (.d (.int (-1))) M Φ := by
  obtain ⟨ys, rfl⟩ : ∃ ys, ds = ys ++ [d] := by
    cases ds with
    | nil => simp at h
    | cons a t => exact ⟨(a :: t).dropLast, by rw [List.getLast?_eq_some_getLast (by simp)] at h; cases h; exact (List.dropLast_concat_getLast (by simp)).symm⟩
  exact ix_l (atI_last _ _) k
theorem IxSet.last {r x : Rv} {xs : List Rv} : IxSet r (-1) (xs ++ [x]) (xs ++ [r]) := by
  have h : ixN (xs ++ [x]).length (-1) = some xs.length := by
    have hl : (xs ++ [x]).length = xs.length + 1 := by simp
    unfold ixN
    rw [hl]
    have e1 : ¬ (0 : Int) ≤ -1 := by decide
    simp
    try omega
  have := IxSet.any (r := r) h
  rw [show (xs ++ [x]).set xs.length r = xs ++ [r] by simp] at this
  exact this
end Dl

set_option maxRecDepth 100000
set_option linter.unusedVariables false
namespace Dl
open PySem PySem.Spec PyProof.Rows L2
/-! small data: what repr and == ask -/
structure Sh (w d : Nat) (x : PyData) : Prop where
  sw : x.showable = true
  cl : x.canLay0 = true
  dp : x.depth ≤ d
  ls : x.leavesShort 60 = true
  bk : x.bulk ≤ w
structure ShAll (w d : Nat) (xs : List PyData) : Prop where
  sw : PyData.showableAll xs = true
  cl : PyData.canLayAll0 xs = true
  dp : PyData.depthAll xs ≤ d
  ls : PyData.leavesShortAll 60 xs = true
  bk : PyData.bulkAll xs ≤ w
theorem Sh.int {i : Int} (h : i.natAbs < 10 ^ 50) : Sh 0 0 (.int i) := by
  refine ⟨?_, rfl, Nat.le_refl _, ?_, Nat.le_refl _⟩
  · have h1 : i.natAbs < 2 ^ 200 := Nat.lt_of_lt_of_le h (by decide)
    have := PySem.Flt.log2_lt_of (k := 200) (by decide) h1
    rw [PyData.showable, decide_eq_true_eq]
    omega
  · have := int_text_length_le10 (k := 50) (by decide) h
    rw [PyData.leavesShort, decide_eq_true_eq, PyData.shown_int]
    have e := PySem.ofString_length (toString i)
    omega
theorem Sh.bool {b : Bool} : Sh 0 0 (.bool b) := ⟨rfl, rfl, Nat.le_refl _, rfl, Nat.le_refl _⟩
theorem Sh.none : Sh 0 0 .none := ⟨rfl, rfl, Nat.le_refl _, rfl, Nat.le_refl _⟩
theorem ShAll.nil {d : Nat} : ShAll 0 d [] := ⟨rfl, rfl, Nat.zero_le _, rfl, Nat.le_refl _⟩
theorem ShAll.cons {w w' d : Nat} {x : PyData} {xs : List PyData} (h : Sh w d x) (t : ShAll w' d xs) : ShAll (w + 1 + w') d (x :: xs) :=
  ⟨by rw [PyData.showableAll, h.sw, t.sw]; rfl, by rw [PyData.canLayAll0, h.cl, t.cl]; rfl, by rw [PyData.depthAll]; exact Nat.max_le.mpr ⟨h.dp, t.dp⟩, by rw [PyData.leavesShortAll, h.ls, t.ls]; rfl, by rw [PyData.bulkAll]; have := h.bk; have := t.bk; omega⟩
theorem ShAll.cons2 {w w' d d' : Nat} {x : PyData} {xs : List PyData} (h : Sh w d x) (t : ShAll w' d' xs) : ShAll (w + 1 + w') (max d d') (x :: xs) :=
  .cons ⟨h.sw, h.cl, Nat.le_trans h.dp (Nat.le_max_left ..), h.ls, h.bk⟩ ⟨t.sw, t.cl, Nat.le_trans t.dp (Nat.le_max_right ..), t.ls, t.bk⟩
theorem ShAll.nil0 : ShAll 0 0 [] := .nil
theorem Sh.mono {w w' d d' : Nat} {x : PyData} (h : Sh w d x) (hw : w ≤ w') (hd : d ≤ d') : Sh w' d' x := ⟨h.sw, h.cl, Nat.le_trans h.dp hd, h.ls, Nat.le_trans h.bk hw⟩
theorem Sh.list {w d : Nat} {xs : List PyData} (h : ShAll w d xs) : Sh w (d + 1) (.list xs) := ⟨h.sw, h.cl, Nat.succ_le_succ h.dp, h.ls, h.bk⟩
theorem Sh.tuple {w d : Nat} {xs : List PyData} (h : ShAll w d xs) : Sh w (d + 1) (.tuple xs) := ⟨h.sw, h.cl, Nat.succ_le_succ h.dp, h.ls, h.bk⟩
theorem ShAll.ints : ∀ {xs : List Int}, (∀ x ∈ xs, x.natAbs < 10 ^ 50) → ShAll xs.length 0 (xs.map PyData.int)
  | [], _ => .nil
  | x :: xs, h => by
    have := ShAll.cons (Sh.int (h x (List.mem_cons_self ..))) (ShAll.ints (xs := xs) fun y hy => h y (List.mem_cons_of_mem _ hy))
    rw [List.length_cons, List.map_cons]
    rw [show xs.length + 1 = 0 + 1 + xs.length by omega]
    exact this
theorem Sh.dI {xs : List Int} (h : ∀ x ∈ xs, x.natAbs < 10 ^ 50) : Sh xs.length 1 (dI xs) := .list (.ints h)
theorem Sh.shaped {w d : Nat} {x : PyData} (h : Sh w d x) (hd : d ≤ 64) : SeqAt.shaped x = true := by
  rw [SeqAt.shaped, h.cl, Bool.true_and, decide_eq_true_eq]; exact Nat.le_trans h.dp hd
theorem Sh.line {w d : Nat} {x : PyData} (h : Sh w d x) (hw : w ≤ 100000) : x.shown.length ≤ sizeLine := by
  have h1 := PyData.shown_le_bulk 60 (by decide) x h.ls
  have h2 := h.bk
  have h3 : sizeLine = 16777216 := sizeLine_eq
  omega
theorem Sh.eqv {w d : Nat} {x : PyData} (h : Sh w d x) : PyData.eqv x x = true := SeqAt.eqv_refl _ h.cl
/-! data of small depth: what == asks -/
structure Lo (d : Nat) (x : PyData) : Prop where
  cl : x.canLay0 = true
  dp : x.depth ≤ d
structure LoAll (d : Nat) (xs : List PyData) : Prop where
  cl : PyData.canLayAll0 xs = true
  dp : PyData.depthAll xs ≤ d
theorem Lo.int {i : Int} : Lo 0 (.int i) := ⟨rfl, Nat.le_refl _⟩
theorem Lo.bool {b : Bool} : Lo 0 (.bool b) := ⟨rfl, Nat.le_refl _⟩
theorem Lo.none : Lo 0 .none := ⟨rfl, Nat.le_refl _⟩
theorem LoAll.nil : LoAll 0 [] := ⟨rfl, Nat.le_refl _⟩
theorem LoAll.cons {d d' : Nat} {x : PyData} {xs : List PyData} (h : Lo d x) (t : LoAll d' xs) : LoAll (max d d') (x :: xs) :=
  ⟨by rw [PyData.canLayAll0, h.cl, t.cl]; rfl, by rw [PyData.depthAll]; exact Nat.max_le.mpr ⟨Nat.le_trans h.dp (Nat.le_max_left ..), Nat.le_trans t.dp (Nat.le_max_right ..)⟩⟩
theorem Lo.list {d : Nat} {xs : List PyData} (h : LoAll d xs) : Lo (d + 1) (.list xs) := ⟨h.cl, Nat.succ_le_succ h.dp⟩
theorem Lo.tuple {d : Nat} {xs : List PyData} (h : LoAll d xs) : Lo (d + 1) (.tuple xs) := ⟨h.cl, Nat.succ_le_succ h.dp⟩
theorem LoAll.of {d : Nat} : ∀ {xs : List PyData}, (∀ x ∈ xs, Lo d x) → LoAll d xs
  | [], _ => ⟨rfl, Nat.zero_le _⟩
  | x :: xs, h => by
    have := LoAll.cons (h x (List.mem_cons_self ..)) (LoAll.of (xs := xs) fun y hy => h y (List.mem_cons_of_mem _ hy))
    rw [Nat.max_self] at this
    exact this
theorem LoAll.ints {xs : List Int} : LoAll 0 (xs.map PyData.int) := .of fun x hx => by
  obtain ⟨i, _, rfl⟩ := List.mem_map.mp hx
  exact .int
theorem Lo.dI {xs : List Int} : Lo 1 (dI xs) := .list .ints
theorem Lo.dP {d : Int} {xs : List Int} : Lo 2 (dP d xs) := .tuple (.cons .int (.cons .dI .nil))
theorem Lo.shaped {d : Nat} {x : PyData} (h : Lo d x) (hd : d ≤ 64) : SeqAt.shaped x = true := by
  rw [SeqAt.shaped, h.cl, Bool.true_and, decide_eq_true_eq]; exact Nat.le_trans h.dp hd
theorem Lo.eqv {d : Nat} {x : PyData} (h : Lo d x) : PyData.eqv x x = true := SeqAt.eqv_refl _ h.cl
theorem Sh.lo {w d : Nat} {x : PyData} (h : Sh w d x) : Lo d x := ⟨h.cl, h.dp⟩
theorem Le.pre : ∀ (G : Mem) {M : Mem}, Le (G ++ M) M
  | [], M => .refl M
  | _ :: G, _ => .drop (Le.pre G)
/-! what a value is now -/
mutual
inductive Snap (M : Mem) : Rv → PyData → Prop
  | d {x : PyData} : Snap M (.d x) x
  | c {p : Addr} {rs : List Rv} {ds : List PyData} (h : Has p (Is rs) M) (hs : SnapAll M rs ds) : Snap M (.cell p) (.list ds)
  | t {rs : List Rv} {ds : List PyData} (hs : SnapAll M rs ds) : Snap M (.tup rs) (.tuple ds)
inductive SnapAll (M : Mem) : List Rv → List PyData → Prop
  | nil : SnapAll M [] []
  | cons {r : Rv} {rs : List Rv} {d : PyData} {ds : List PyData} : Snap M r d → SnapAll M rs ds → SnapAll M (r :: rs) (d :: ds)
end
theorem SnapAll.all {M : Mem} : ∀ {ds : List PyData}, SnapAll M (ds.map Rv.d) ds
  | [] => .nil
  | _ :: _ => .cons .d .all
theorem SnapAll.rI {M : Mem} {xs : List Int} : SnapAll M (rI xs) (xs.map PyData.int) := by rw [← rI_d]; exact .all
mutual
theorem Snap.dp {K : Frg} {B H : Hp} {M : Mem} (ok : Ok K B H M) : ∀ {r : Rv} {d : PyData} {v : V}, Snap M r d → RvOk K B v r → Dp K H v d
  | _, _, _, .d, q => by cases q with | d q => exact dp_mono ok.ext _ q
  | _, _, _, .c h hs, q => by
    cases q
    obtain ⟨_, xs, rs', hH, hx, hP⟩ := ok.mem _ h.mem
    have e : rs' = _ := hP
    subst e
    exact .lst (.of hH) (SnapAll.dp ok hs hx)
  | _, _, _, .t hs, q => by
    cases q with | tup h ha => exact .tup (sq_mono ok.ext h) (SnapAll.dp ok hs ha)
theorem SnapAll.dp {K : Frg} {B H : Hp} {M : Mem} (ok : Ok K B H M) : ∀ {rs : List Rv} {ds : List PyData} {vs : List V}, SnapAll M rs ds → RvAll K B vs rs → DpAll K H vs ds
  | _, _, _, .nil, q => by cases q; exact .nil
  | _, _, _, .cons h t, q => by cases q with | cons a b => exact .cons (Snap.dp ok h a) (SnapAll.dp ok t b)
end
variable {X : Cx} {ρ : List Rv} {M : Mem} {Φ : Pst} {Ξ : Xi}
theorem g2_eqN {r q : Rv} {d e : PyData} {k1 k2 : Nat} (hu : X.A.units + 64 < cLine) (s1 : Snap M r d) (s2 : Snap M q e) (a1 : Lo k1 d) (a2 : Lo k2 e) (b1 : k1 ≤ 64) (b2 : k2 ≤ 64) (h : Φ (.d (.bool (PyData.eqv d e))) M) : G2 X (compareOp .Eq) r q M Φ :=
  g2_mk (op_eqD hu) fun B H v w ok a b => ⟨d, e, s1.dp ok a, s2.dp ok b, a1.shaped b1, a2.shaped b2, post_same ok (.d (.bl _)) h⟩
theorem g2_neN {r q : Rv} {d e : PyData} {k1 k2 : Nat} (hu : X.A.units + 64 < cLine) (s1 : Snap M r d) (s2 : Snap M q e) (a1 : Lo k1 d) (a2 : Lo k2 e) (b1 : k1 ≤ 64) (b2 : k2 ≤ 64) (h : Φ (.d (.bool (!PyData.eqv d e))) M) : G2 X (compareOp .NotEq) r q M Φ :=
  g2_mk (op_neD hu) fun B H v w ok a b => ⟨d, e, s1.dp ok a, s2.dp ok b, a1.shaped b1, a2.shaped b2, post_same ok (.d (.bl _)) h⟩
theorem gc_reprN {r : Rv} {ds : List PyData} {w k : Nat} (hg : X.A.guards = some []) (hu : X.A.units + 64 < cLine) (s : Snap M r (.list ds)) (a : Sh w k (.list ds)) (b1 : k ≤ 60) (b2 : w ≤ 100000) (h : Φ (.d (.str (PyData.list ds).shown)) M) : GC X (.builtin "repr") [r] M Φ :=
  gc_mk (call_repr hg a.sw (by have := a.dp; omega) (a.line b2)) fun B H vs ok q => by
    cases q with
    | cons q t =>
      cases t
      have q' := s.dp ok q
      cases q' with
      | lst h1 h2 => exact ⟨_, rfl, .lst h1 h2, post_same ok (.d (.str _)) h⟩
/-! list displays, either way -/
def LstK (rs : List Rv) (M : Mem) (Φ : Pst) : Prop := (∃ ds : List PyData, rs = ds.map Rv.d ∧ ds.length ≤ sizeLine ∧ Φ (.d (.list ds)) M) ∨ (rs.length ≤ sizeLine ∧ ∀ p, Φ (.cell p) ((p, Is rs) :: M))
theorem lst_two {es : List Expr} {pos : Pos} (h : GA X es ρ M (fun rs M1 => LstK rs M1 Φ) Ξ) : GE X (.List es pos) ρ M Φ Ξ :=
  fun B H σ ok env tk => eS_of (pe_lst pa_S) (args h ok env tk fun vs H1 B1 M1 rs o1 f1 q1 z => by
    rcases z with ⟨ds, e, z, k⟩ | ⟨z, k⟩
    · subst e
      refine ⟨by rw [q1.length, List.length_map]; exact z, fun p hp => postE_after f1 (post_frz o1 hp (.d (.lst (.of upd_same) (dpAll_mono (same_new (sub_none o1.ext hp)) _ q1.data))) k)⟩
    · refine ⟨by rw [q1.length]; exact z, fun p hp => postE_after f1 (post_own (P := Is rs) o1 hp q1 rfl (k p))⟩)
theorem ex_lD {rs : List Rv} {ds : List PyData} (c : DataL rs ds) (z : ds.length ≤ sizeLine) (h : Φ (.d (.list ds)) M) : LstK rs M Φ := .inl ⟨ds, c.eq, z, h⟩
theorem ex_lO {rs : List Rv} (z : rs.length ≤ sizeLine) (h : ∀ p, Φ (.cell p) ((p, Is rs) :: M)) : LstK rs M Φ := .inr ⟨z, h⟩
end Dl

set_option maxRecDepth 100000
set_option linter.unusedVariables false
namespace Dl
open PySem PySem.Spec PyProof.Rows L2
/-! ## the end: the call of law, by its promise -/
/-- the tracked heap: the script alone, where the module's part does not hold it -/
def Hs (K : Frg) (a : Addr) (o : Obj) (ns : List Int) : Hp := fun b => if b = a ∧ K.lookup a = none then some (.frz o (.lst (ns.map V.int))) else none
theorem Hs.at {K : Frg} {a b : Addr} {o : Obj} {ns : List Int} {u : HO} (h : Hs K a o ns b = some u) : b = a ∧ K.lookup a = none ∧ u = .frz o (.lst (ns.map V.int)) := by
  unfold Hs at h
  by_cases c : b = a ∧ K.lookup a = none
  · rw [if_pos c] at h; cases h; exact ⟨c.1, c.2, rfl⟩
  · rw [if_neg c] at h; cases h
theorem ints_dp {K : Frg} {H : Hp} : ∀ (ns : List Int), DpAll K H (ns.map V.int) (ns.map PyData.int)
  | [] => .nil
  | n :: ns => .cons (.int n) (ints_dp ns)
theorem callD {P : Program} {w : World} {K : Frg} {mg mb : Str → Option Value} {k : Nat} {fa a : Addr} {fd : FuncData} {x : Str} {pd : Prom} {s : Shared} {vs : List Value} {ns : List Int}
    (KX : K.In s.heap) (hns : s.heap.Ns mainGlobals mg) (hb : s.heap.Ns builtinsNs mb) (hbb : ∀ x : Str, x ≠ "__name__" → mb x = bootBuiltins x) (hlim : s.heap.NoLimit) (hg : s.gens = #[])
    (ha : s.heap.get? a = some { cls := .type "list", data := .seq vs.toArray }) (hi : IntsAre vs ns) (hl : ns.length ≤ sizeLine) (hr : Room k callerA)
    (F : ∀ base : Heap, K.In base → base.Ns mainGlobals mg → FnD P w K mg base k fa fd [x] pd) (hbind : ∀ (s : Shared) (u : Value), BindsTo s fd ⟨[u], []⟩ [(x, u)])
    (hpd : pd [.d (dI ns)] [] (fun r _ => r = .d (.bool true)) (fun _ _ => False)) :
    codeAny (model P w) callerA (.call (.ref fa) ⟨[.ref a], []⟩) (fun r s' => r = .ok (.ret (.bool true)) ∧ OldK s.heap s'.heap ∧ s'.os = s.os ∧ AllBare s'.gens) s := by
  obtain ⟨H, eH⟩ : ∃ H, H = Hs K a { cls := .type "list", data := .seq vs.toArray } ns := ⟨_, rfl⟩
  have at' : ∀ {b : Addr} {u : HO}, H b = some u → b = a ∧ K.lookup a = none ∧ u = .frz { cls := .type "list", data := .seq vs.toArray } (.lst (ns.map V.int)) := fun h => Hs.at (eH ▸ h)
  have sq : SqL K H a (ns.map V.int) := by
    cases hk : K.lookup a with
    | none => exact .inl (.inr ⟨_, by rw [eH]; exact if_pos ⟨rfl, hk⟩⟩)
    | some o =>
      have e := KX a o hk
      rw [ha] at e
      cases e
      exact .inr ⟨_, vs.toArray, _, hk, rfl, rfl, rfl, by rw [List.size_toArray, hi.length]; exact hl, by simpa using vals_ints hi⟩
  have dict_out : ∀ {b : Addr} {o : Obj} {es : Array DictEntry} {ep : Nat}, s.heap.get? b = some o → o.data = .dict es ep → H b = none := fun {b o es ep} e d => by
    cases q : H b with
    | none => rfl
    | some u =>
      obtain ⟨rfl, _, _⟩ := at' q
      rw [ha] at e
      cases e
      cases d
  have ns_at : ∀ {b : Addr} {m : Str → Option Value}, s.heap.Ns b m → (hidT s.heap H).Ns b m := fun ⟨o, es, ep, e, d, r⟩ => ⟨o, es, ep, hidT_get e (dict_out e d), d, r⟩
  have KB : K.In (hidT s.heap H) := fun b o e => hidT_get (KX b o e) (by
    cases q : H b with
    | none => rfl
    | some u =>
      obtain ⟨rfl, z, _⟩ := at' q
      rw [e] at z
      cases z)
  have ok : HOk P w H s.heap := fun b u z => by
    obtain ⟨rfl, _, rfl⟩ := at' z
    exact ⟨ha, by rw [List.length_map]; exact hl, vs, _, vals_ints hi, ha⟩
  have e0 : Env0 P w K mg (hidT s.heap H) callerA [] s H :=
    ⟨rfl, ⟨KB, ns_at hns, ⟨mb, ns_at hb, hbb⟩, let ⟨mc, h1, h2⟩ := hlim; ⟨mc, ns_at h1, h2⟩⟩, fun b o e => of_hidT e, Nat.le_of_eq (hidT_size _ _), trivial, fun b z => absurd z List.not_mem_nil, ok, .of_eq hg⟩
  have okD : Ok K H H [] := ⟨Same.refl _, fun p hp => absurd hp List.not_mem_nil, List.nodup_nil⟩
  refine codeAny_mono ((F _ KB (ns_at hns)).run callerA [] s H ⟨[.ref a], []⟩ [.ref a] [.ref a] (fun v _ => v = .bl true) (fun _ _ _ => False) hr rfl e0 (hbind s (.ref a)) (.cons rfl .nil)
    ⟨H, [], [.d (dI ns)], _, _, okD, .cons (.d (.lst sq (ints_dp ns))) .nil, hpd, fun v H' ⟨B1, M1, r, o1, f1, q1, e⟩ => by subst e; exact bool_of q1, fun cls d H' z => by
      obtain ⟨_, _, _, _, _, _, z⟩ := z
      exact z⟩) fun r s' h => ?_
  cases r with
  | error e =>
    obtain ⟨_, _, _, _, _, _, _, _, _, _, _, _, z⟩ := h
    exact z.elim
  | ok fl =>
    cases fl with
    | next => exact False.elim h
    | brk => exact False.elim h
    | cont => exact False.elim h
    | ret u =>
      obtain ⟨v, H', os, bare, un, ok', r', rfl⟩ := h
      obtain rfl : u = Value.bool true := r'
      refine ⟨rfl, OldK.of_keep fun b o e => ?_, os, bare⟩
      cases q : H b with
      | none => exact un.keep b o e q List.not_mem_nil List.not_mem_nil
      | some u =>
        obtain ⟨_, _, rfl⟩ := at' q
        obtain ⟨e1, _⟩ := ok b _ q
        obtain ⟨e2, _⟩ := ok' b _ (un.frzs b _ _ q)
        rw [e1] at e
        cases e
        exact e2
/-- what the top has written: a def; an int -/
def FunIn (K : Frg) (x qual : Str) (st : Stmt) : Prop := ∃ (f : Addr) (oc : Value) (od an : Option Addr) (sl : Array (Option Value)) (kV dc pm cd ct : Value),
  PySem.W.nsIn K mainGlobals x = some (some (.ref f)) ∧ K.lookup f = some ⟨oc, od, .func (PySem.W.fnOf x qual (defArgs st) (defBody st) (defScope st) .none kV dc pm an cd ct), sl⟩ ∧ PySem.W.codeIn K cd qual = true ∧ PySem.W.keepIn K (.ref f) = true
theorem fi {K : Frg} {x qual : Str} {st : Stmt} {f : Addr} {oc : Value} {od an : Option Addr} {sl : Array (Option Value)} {kV dc pm cd ct : Value} (a : PySem.W.nsIn K mainGlobals x = some (some (.ref f)))
    (l : K.lookup f = some ⟨oc, od, .func (PySem.W.fnOf x qual (defArgs st) (defBody st) (defScope st) .none kV dc pm an cd ct), sl⟩) (c : PySem.W.codeIn K cd qual = true) (k : PySem.W.keepIn K (.ref f) = true) : FunIn K x qual st :=
  ⟨f, oc, od, an, sl, kV, dc, pm, cd, ct, a, l, c, k⟩
def ConIn (K : Frg) (x : Str) (v : V) : Prop := ∃ u : Value, PySem.W.nsIn K mainGlobals x = some (some u) ∧ RelV v u
theorem ci {K : Frg} {x : Str} {i : Int} {t : Tok} (a : PySem.W.nsIn K mainGlobals x = some (some (.int i t))) : ConIn K x (.int i) := ⟨_, a, t, rfl⟩
theorem ConIn.glo {K : Frg} {h : Heap} {mg : Str → Option Value} {x : Str} {v : V} (j : ConIn K x v) (X : K.In h) (G : h.Ns mainGlobals mg) (d : (x == ("__debug__" : Str)) = false) : GloG mg x v := by
  obtain ⟨u, a, r⟩ := j
  exact ⟨⟨u, PySem.W.mg_of X G a, r⟩, d⟩
theorem walk_D {l : PySem.W.OpenLaw} {n k : Nat} {q : Program} {loose : List Str} {XP : (Str → Option Value) → Heap → Prop} {YP : World → Heap → Prop} {d : DefRec} {K : Params → Frg} {pd : Prom} {x : Str}
    (hn : l.most = some n) (hn2 : n ≤ sizeLine) (hdf : d.params.defaults = []) (hr : Room k callerA) (hY : ∀ (w : World) (h : Heap), YP w h → (K w.params).In h)
    (F : ∀ (w : World) (mg : Str → Option Value) (fa : Addr) (h : Heap), (K w.params).In h → h.Ns mainGlobals mg → mg d.name = some (.ref fa) →
      ∃ fd : FuncData, (∀ (s : Shared) (u : Value), BindsTo s fd ⟨[u], []⟩ [(x, u)]) ∧ ∀ base : Heap, (K w.params).In base → base.Ns mainGlobals mg → FnD l.prog w (K w.params) mg base k fa fd [x] pd)
    (hpd : ∀ ns : List Int, ns.length ≤ n → pd [.d (dI ns)] [] (fun r _ => r = .d (.bool true)) (fun _ _ => False)) :
    PySem.W.WalkO q loose XP YP l.row.toRowW d [] (fun f vs => PySem.call f vs) := by
  refine Att.attach_call hn hdf fun w s₀ s₁ mg mb fa o pm cd doc a vs ns G Y ho hd hcd hmg hobj hints hlen hg => ?_
  obtain ⟨fd, hb, hF⟩ := F w mg fa _ (hY w _ Y) G.T.g hmg
  exact callD (hY w _ Y) G.T.g G.T.b G.T.builtins G.T.nolimit hg hobj hints (Nat.le_trans hlen hn2) hr hF hb (hpd ns hlen)
end Dl

set_option Elab.async false
set_option linter.all false
set_option maxRecDepth 100000
namespace IR
open PySem PySem.Spec PyProof.Rows L2 Dl
/-! ## values, memory, results -/
inductive Vl where
  | non
  | bl (b : Bool)
  | int (i : Int)
  | str (s : Str)
  | tup (xs : List Vl)
  | cell (n : Nat)
  | frz (ns : List Int)
  | lst (xs : List Vl)
instance : Inhabited Vl := ⟨.non⟩
abbrev Mm := List (List Vl)
abbrev Ev := List (Option Vl)
structure Exn where
  cls : Str
  fs : Option (List (Str × PyData))
inductive R (α : Type) where
  | ok (a : α) (h : Mm)
  | err (x : Exn) (h : Mm)
  | bad
@[simp] def R.bind {α β : Type} : R α → (α → Mm → R β) → R β
  | .ok a h, f => f a h
  | .err x h, _ => .err x h
  | .bad, _ => .bad
inductive RS where
  | next (ρ : Ev) (h : Mm)
  | ret (v : Vl) (h : Mm)
  | brk (ρ : Ev) (h : Mm)
  | cont (ρ : Ev) (h : Mm)
  | err (x : Exn) (ρ : Ev) (h : Mm)
  | bad
@[simp] def R.bindS {α : Type} (ρ : Ev) : R α → (α → Mm → RS) → RS
  | .ok a h, f => f a h
  | .err x h, _ => .err x ρ h
  | .bad, _ => .bad
/-! ## the language -/
inductive Op where | add | sub | mul | fdiv | mod | pow deriving DecidableEq
inductive Cp where | lt | le | gt | ge | eq | ne | is | isNot deriving DecidableEq
inductive Ty where | int | bool | str | list | tuple deriving DecidableEq
inductive Bi where | len | abs | max | min | toInt | list | tuple | sum | all | repr deriving DecidableEq
inductive Tg where
  | nm (i : Nat)
  | tup (ts : List Tg)
inductive E where
  | int (i : Int) | bl (b : Bool) | non | str (s : Str)
  | loc (i : Nat)
  | bin (o : Op) (a b : E)
  | cmp (o : Cp) (a b : E)
  | chain (o p : Cp) (a b c : E)
  | and (a b : E) | or (a b : E) | not (a : E) | neg (a : E)
  | ite (c a b : E)
  | tup (es : List E) | lst (es : List E)
  | ix (a b : E)
  | slice (a : E) (lo hi : Option E)
  | call (f : Str) (es : List E)
  | callk (f : Str) (es : List E) (perm : List Nat)
  | bi (b : Bi) (es : List E)
  | isi (e : E) (t : Ty)
  | app (o e : E)
  | lc (tg : Tg) (it : E) (ifs : List E) (elt : E) (vs : List Nat)
  | rng1 (a : E) | rng2 (a b : E) | rng3 (a b c : E) | zip (a b : E) | enum (a : E) | over (a : E)
  | tru (a : E)
  | frz (a : E)
  | fls (es : List E)
  | fcall (f : Str) (es : List E)
  | fcallk (f : Str) (es : List E) (perm : List Nat)
  | stop
inductive S where
  | set (i : Nat) (e : E)
  | par (is : List Nat) (es : List E)
  | tset (tg : Tg) (e : E)
  | setix (o i e : E)
  | ife (c : E) (a b : List S)
  | forS (tg : Tg) (it : E) (body : List S)
  | ret (e : E) | retN
  | expr (e : E) | pass | brk | cont | stop
/-! ## what values are now -/
def snapL (f : Vl → Option PyData) : List Vl → Option (List PyData)
  | [] => some []
  | x :: xs => match f x, snapL f xs with
    | some d, some ds => some (d :: ds)
    | _, _ => none
def snap : Nat → Mm → Vl → Option PyData
  | _, _, .non => some .none
  | _, _, .bl b => some (.bool b)
  | _, _, .int i => some (.int i)
  | _, _, .str s => some (.str s)
  | _, _, .frz ns => some (dI ns)
  | n + 1, h, .lst xs => (snapL (snap n h) xs).map .list
  | n + 1, h, .tup xs => (snapL (snap n h) xs).map .tuple
  | n + 1, h, .cell c => match h[c]? with
    | some xs => (snapL (snap n h) xs).map .list
    | none => none
  | 0, _, _ => none
def seqOf (h : Mm) : Vl → Option (List Vl)
  | .cell n => h[n]?
  | .frz ns => some (ns.map .int)
  | .lst xs => some xs
  | _ => none
def truth (h : Mm) : Vl → Option Bool
  | .bl b => some b
  | .non => some false
  | .tup xs => some (!xs.isEmpty)
  | .cell n => h[n]?.map fun xs => !xs.isEmpty
  | .lst xs => some (!xs.isEmpty)
  | .int i => some (decide (i ≠ 0))
  | _ => none
/-! ## operators -/
def big (i : Int) : Bool := decide (i.natAbs < 2 ^ 1000)
def wid (i : Int) : Bool := decide (i.natAbs < 2 ^ 20000)
def small (i : Int) : Bool := decide (-(2 ^ 62) ≤ i) && decide (i < 2 ^ 62)
def repL (xs : List Vl) (n : Nat) : List Vl := (List.replicate n xs).flatten
def binV (o : Op) (x y : Vl) (h : Mm) : R Vl :=
  match x, y with
  | .int i, .int j =>
    match o with
    | .add => .ok (.int (i + j)) h
    | .sub => .ok (.int (i - j)) h
    | .mul => if wid i && wid j then .ok (.int (i * j)) h else .bad
    | .fdiv => if decide (0 < j) && big j then .ok (.int (i / j)) h else .bad
    | .mod => if 0 < j then .ok (.int (i % j)) h else .bad
    | .pow => if big i && decide (0 ≤ j) && decide (j ≤ 1000) then .ok (.int (i ^ j.toNat)) h else .bad
  | .cell a, .cell b =>
    match o with
    | .add => match h[a]?, h[b]? with
      | some xs, some ys => if xs.length + ys.length ≤ sizeLine then .ok (.cell h.length) (h ++ [xs ++ ys]) else .bad
      | _, _ => .bad
    | _ => .bad
  | .lst xs, .lst ys =>
    match o with
    | .add => if xs.length + ys.length ≤ sizeLine then .ok (.lst (xs ++ ys)) h else .bad
    | _ => .bad
  | .cell a, .lst ys =>
    match o with
    | .add => match h[a]? with
      | some xs => if xs.length + ys.length ≤ sizeLine then .ok (.cell h.length) (h ++ [xs ++ ys]) else .bad
      | _ => .bad
    | _ => .bad
  | .cell a, .int k =>
    match o with
    | .mul => match h[a]? with
      | some xs => if small k && decide (xs.length * k.toNat ≤ sizeLine) then .ok (.cell h.length) (h ++ [repL xs k.toNat]) else .bad
      | _ => .bad
    | _ => .bad
  | _, _ => .bad
def eqV (x y : Vl) (h : Mm) : Option Bool := match x, y with
  | .str s, .str t => some (decide (s = t))
  | _, _ => match snap 8 h x, snap 8 h y with
    | some d, some e => if SeqAt.shaped d && SeqAt.shaped e then some (PyData.eqv d e) else none
    | _, _ => none
def cmpV (o : Cp) (x y : Vl) (h : Mm) : R Vl :=
  match o with
  | .eq => match eqV x y h with
    | some b => .ok (.bl b) h
    | none => .bad
  | .ne => match eqV x y h with
    | some b => .ok (.bl (!b)) h
    | none => .bad
  | .is => match x, y with
    | .non, .non => .ok (.bl true) h
    | _, .non => .ok (.bl false) h
    | _, _ => .bad
  | .isNot => match x, y with
    | .non, .non => .ok (.bl false) h
    | _, .non => .ok (.bl true) h
    | _, _ => .bad
  | .lt => match x, y with
    | .int i, .int j => .ok (.bl (decide (i < j))) h
    | _, _ => .bad
  | .le => match x, y with
    | .int i, .int j => .ok (.bl (decide (i ≤ j))) h
    | _, _ => .bad
  | .gt => match x, y with
    | .int i, .int j => .ok (.bl (decide (j < i))) h
    | _, _ => .bad
  | .ge => match x, y with
    | .int i, .int j => .ok (.bl (decide (j ≤ i))) h
    | _, _ => .bad
def ixV (x y : Vl) (h : Mm) : R Vl :=
  match y with
  | .int i => match x with
    | .cell n => match h[n]? with
      | some xs => match atI xs i with
        | some v => .ok v h
        | none => .bad
      | none => .bad
    | .tup xs => match atI xs i with
      | some v => .ok v h
      | none => .bad
    | .lst xs => match atI xs i with
      | some v => .ok v h
      | none => .bad
    | .frz ns => match atI ns i with
      | some v => .ok (.int v) h
      | none => .bad
    | .str z => if z.length ≤ sizeLine then match atI z.cps.toList i with
      | some c => .ok (.str ⟨#[c]⟩) h
      | none => .bad else .bad
    | _ => .bad
  | _ => .bad
def sliceV (x : Vl) (lo hi : Option Int) (h : Mm) : R Vl :=
  match x with
  | .lst xs => .ok (.lst (Dl.cutD xs lo hi)) h
  | x => match seqOf h x with
    | some xs => .ok (.cell h.length) (h ++ [Dl.cutD xs lo hi])
    | none => .bad
def isiV : Vl → Ty → Bool
  | .int _, .int => true
  | .bl _, .int => true
  | .bl _, .bool => true
  | .str _, .str => true
  | .tup _, .tuple => true
  | .cell _, .list => true
  | .frz _, .list => true
  | .lst _, .list => true
  | _, _ => false
def asInts : List Vl → Option (List Int)
  | [] => some []
  | .int i :: xs => (asInts xs).map (i :: ·)
  | _ :: _ => none
def asBools : List Vl → Option (List Bool)
  | [] => some []
  | .bl i :: xs => (asBools xs).map (i :: ·)
  | _ :: _ => none
def reprOk (d : PyData) : Bool := d.showable && d.canLay0 && decide (d.depth ≤ 60) && d.leavesShort 60 && decide (d.bulk ≤ 100000)
def maxOf : List Int → Int
  | [] => 0
  | a :: as => as.foldl Max.max a
def minOf : List Int → Int
  | [] => 0
  | a :: as => as.foldl Min.min a
def biV (b : Bi) (xs : List Vl) (h : Mm) : R Vl :=
  match b, xs with
  | .len, [.tup ys] => .ok (.int ys.length) h
  | .len, [x] => match seqOf h x with
    | some ys => .ok (.int ys.length) h
    | none => .bad
  | .abs, [.int i] => .ok (.int i.natAbs) h
  | .max, [.int i, .int j] => .ok (.int (Max.max i j)) h
  | .min, [.int i, .int j] => .ok (.int (Min.min i j)) h
  | .max, [x] => match seqOf h x with
    | some ys => match asInts ys with
      | some is => if is.isEmpty then .bad else .ok (.int (maxOf is)) h
      | none => .bad
    | none => .bad
  | .min, [x] => match seqOf h x with
    | some ys => match asInts ys with
      | some is => if is.isEmpty then .bad else .ok (.int (minOf is)) h
      | none => .bad
    | none => .bad
  | .toInt, [.int i] => .ok (.int i) h
  | .toInt, [.bl b] => .ok (.int (if b = true then 1 else 0)) h
  | .list, [.tup ys] => .ok (.cell h.length) (h ++ [ys])
  | .list, [x] => match seqOf h x with
    | some ys => .ok (.cell h.length) (h ++ [ys])
    | none => .bad
  | .tuple, [.tup ys] => .ok (.tup ys) h
  | .tuple, [x] => match seqOf h x with
    | some ys => .ok (.tup ys) h
    | none => .bad
  | .sum, [x] => match seqOf h x with
    | some ys => match asInts ys with
      | some is => .ok (.int is.sum) h
      | none => .bad
    | none => .bad
  | .all, [x] => match seqOf h x with
    | some ys => match asBools ys with
      | some bs => .ok (.bl (bs.all id)) h
      | none => .bad
    | none => .bad
  | .repr, [.cell c] => match snap 8 h (.cell c) with
    | some d => if reprOk d then .ok (.str d.shown) h else .bad
    | none => .bad
  | .repr, [.tup c] => match snap 8 h (.tup c) with
    | some d => if reprOk d then .ok (.str d.shown) h else .bad
    | none => .bad
  | .repr, [.lst c] => match snap 8 h (.lst c) with
    | some d => if reprOk d then .ok (.str d.shown) h else .bad
    | none => .bad
  | .repr, [.int i] => if big i then .ok (.str (toString i)) h else .bad
  | _, _ => .bad
/-! ## targets, what is walked -/
mutual
def asgT : Tg → Vl → Ev → Option Ev
  | .nm i, v, ρ => some (ρ.set i (some v))
  | .tup ts, v, ρ => match v with
    | .tup xs => asgTs ts xs ρ
    | .lst xs => asgTs ts xs ρ
    | _ => none
def asgTs : List Tg → List Vl → Ev → Option Ev
  | [], [], ρ => some ρ
  | t :: ts, x :: xs, ρ => match asgT t x ρ with
    | some ρ1 => asgTs ts xs ρ1
    | none => none
  | _, _, _ => none
end
abbrev Watch := List (Nat × List Vl)
def Still (W : Watch) (h : Mm) : Prop := ∀ p ∈ W, h[p.1]? = some p.2
def watch (h : Mm) : Vl → Watch
  | .cell n => match h[n]? with
    | some xs => [(n, xs)]
    | none => []
  | _ => []
def itV (h : Mm) (v : Vl) : Option (List Vl × Watch) := match v with
  | .tup xs => some (xs, [])
  | x => match seqOf h x with
    | some xs => some (xs, watch h x)
    | none => none
def wipeE (ρ : Ev) : List Nat → Ev
  | [] => ρ
  | v :: vs => (wipeE ρ vs).set v none
open Classical in
noncomputable def forV (body : Ev → Mm → RS) (tg : Tg) (W : Watch) : List Vl → Ev → Mm → RS
  | [], ρ, h => if Still W h then .next ρ h else .bad
  | x :: xs, ρ, h => if Still W h then
      match asgT tg x ρ with
      | none => .bad
      | some ρ1 => match body ρ1 h with
        | .next ρ2 h2 => forV body tg W xs ρ2 h2
        | .cont ρ2 h2 => forV body tg W xs ρ2 h2
        | .brk ρ2 h2 => .next ρ2 h2
        | r => r
    else .bad
open Classical in
noncomputable def lcV (cond : Ev → Mm → R Bool) (elt : Ev → Mm → R Vl) (tg : Tg) (W : Watch) (ρ : Ev) : List Vl → List Vl → Mm → R Vl
  | [], acc, h => if Still W h then .ok (.cell h.length) (h ++ [acc]) else .bad
  | x :: xs, acc, h => if Still W h ∧ acc.length < sizeLine then
      match asgT tg x ρ with
      | none => .bad
      | some ρ1 => match cond ρ1 h with
        | .ok true h1 => match elt ρ1 h1 with
          | .ok v h2 => lcV cond elt tg W ρ xs (acc ++ [v]) h2
          | _ => .bad
        | .ok false h1 => lcV cond elt tg W ρ xs acc h1
        | _ => .bad
    else .bad
def setixV (o i v : Vl) (h : Mm) : Option Mm :=
  match o, i with
  | .cell n, .int k => match h[n]? with
    | some xs => match ixN xs.length k with
      | some j => some (h.set n (xs.set j v))
      | none => none
    | none => none
  | _, _ => none
def appV (n : Nat) (v : Vl) (h : Mm) : R Vl :=
  match h[n]? with
  | some xs => if xs.length < sizeLine then .ok .non (h.set n (xs ++ [v])) else .bad
  | none => .bad
def boolOf (h : Mm) (v : Vl) : R Bool := match truth h v with
  | some b => .ok b h
  | none => .bad
def zipV (xs ys : List Vl) : List Vl := (xs.zip ys).map fun p => .tup [p.1, p.2]
def enumV (xs : List Vl) : List Vl := xs.zipIdx.map fun p => .tup [.int (p.2 : Nat), p.1]
def rngC (i c : Int) (n : Nat) : List Vl := (List.range n).map fun k => .int (i + (k : Nat) * c)
def rngV (i : Int) (n : Nat) : List Vl := (List.range n).map fun k => .int (i + (k : Nat))
/-! ## freezing: cells from n on become values -/
def fzL (f : Vl → Option Vl) : List Vl → Option (List Vl)
  | [] => some []
  | x :: xs => match f x, fzL f xs with
    | some y, some ys => some (y :: ys)
    | _, _ => none
mutual
/-- no cell in it -/
def isP : Vl → Bool
  | .cell _ => false
  | .tup xs => isPL xs
  | .lst _ => true
  | .non => true
  | .bl _ => true
  | .int _ => true
  | .str _ => true
  | .frz _ => true
def isPL : List Vl → Bool
  | [] => true
  | x :: xs => isP x && isPL xs
end
def fz (n : Nat) (h : Mm) : Nat → Vl → Option Vl
  | 0, x => if isP x = true then some x else none
  | k + 1, x => if isP x = true then some x else match x with
    | .tup xs => (fzL (fz n h k) xs).map .tup
    | .cell c => if n ≤ c then match h[c]? with
      | some xs => (fzL (fz n h k) xs).map .lst
      | none => none
      else none
    | _ => none
mutual
inductive Pur : Vl → PyData → Prop
  | non : Pur .non .none
  | bl (b : Bool) : Pur (.bl b) (.bool b)
  | int (i : Int) : Pur (.int i) (.int i)
  | str (s : Str) : Pur (.str s) (.str s)
  | frz (ns : List Int) : Pur (.frz ns) (dI ns)
  | tup {xs : List Vl} {ds : List PyData} : PurL xs ds → Pur (.tup xs) (.tuple ds)
  | lst {xs : List Vl} {ds : List PyData} : PurL xs ds → Pur (.lst xs) (.list ds)
inductive PurL : List Vl → List PyData → Prop
  | nil : PurL [] []
  | cons {x : Vl} {d : PyData} {xs : List Vl} {ds : List PyData} : Pur x d → PurL xs ds → PurL (x :: xs) (d :: ds)
end
/-- what stood stands, or is plain -/
def Keep (h h' : Mm) : Prop := h.length ≤ h'.length ∧ ∀ i : Nat, i < h.length → h'[i]? = h[i]? ∨ ∃ xs ds, h'[i]? = some xs ∧ PurL xs ds
open Classical in
noncomputable def frzV (h h' : Mm) (x : Vl) : R Vl := match fz h.length h' 16 x with
  | some y => if Keep h h' then .ok y (h'.take h.length) else .bad
  | none => .bad
/-! ## running it -/
section
variable (C : Str → List Vl → Mm → R Vl)
mutual
noncomputable def ev : E → Ev → Mm → R Vl
  | .int i, _, h => .ok (.int i) h
  | .bl b, _, h => .ok (.bl b) h
  | .non, _, h => .ok .non h
  | .str s, _, h => .ok (.str s) h
  | .loc i, ρ, h => match ρ[i]? with
    | some (some v) => .ok v h
    | _ => .bad
  | .bin o a b, ρ, h => (ev a ρ h).bind fun x h1 => (ev b ρ h1).bind fun y h2 => binV o x y h2
  | .cmp o a b, ρ, h => (ev a ρ h).bind fun x h1 => (ev b ρ h1).bind fun y h2 => cmpV o x y h2
  | .chain o p a b c, ρ, h => (ev a ρ h).bind fun x h1 => (ev b ρ h1).bind fun y h2 => (cmpV o x y h2).bind fun r h3 => match r with
    | .bl true => (ev c ρ h3).bind fun z h4 => cmpV p y z h4
    | .bl false => .ok (.bl false) h3
    | _ => .bad
  | .and a b, ρ, h => (ev a ρ h).bind fun x h1 => match x with
    | .bl true => ev b ρ h1
    | .bl false => .ok (.bl false) h1
    | _ => .bad
  | .or a b, ρ, h => (ev a ρ h).bind fun x h1 => match x with
    | .bl true => .ok (.bl true) h1
    | .bl false => ev b ρ h1
    | _ => .bad
  | .not a, ρ, h => (ev a ρ h).bind fun x h1 => match x with
    | .bl b => .ok (.bl (!b)) h1
    | _ => .bad
  | .neg a, ρ, h => (ev a ρ h).bind fun x h1 => match x with
    | .int i => .ok (.int (-i)) h1
    | _ => .bad
  | .ite c a b, ρ, h => (tv c ρ h).bind fun x h1 => match x with
    | true => ev a ρ h1
    | false => ev b ρ h1
  | .tup es, ρ, h => (evs es ρ h).bind fun xs h1 => if xs.length ≤ sizeLine then .ok (.tup xs) h1 else .bad
  | .lst es, ρ, h => (evs es ρ h).bind fun xs h1 => if xs.length ≤ sizeLine then .ok (.cell h1.length) (h1 ++ [xs]) else .bad
  | .ix a b, ρ, h => (ev a ρ h).bind fun x h1 => (ev b ρ h1).bind fun y h2 => ixV x y h2
  | .slice a lo hi, ρ, h => (ev a ρ h).bind fun x h1 => (evo lo ρ h1).bind fun l h2 => (evo hi ρ h2).bind fun u h3 => sliceV x l u h3
  | .call f es, ρ, h => (evs es ρ h).bind fun xs h1 => C f xs h1
  | .callk f es pm, ρ, h => (evs es ρ h).bind fun xs h1 => C f (pm.map fun i => xs.getD i .non) h1
  | .bi b es, ρ, h => (evs es ρ h).bind fun xs h1 => biV b xs h1
  | .isi e t, ρ, h => (ev e ρ h).bind fun x h1 => .ok (.bl (isiV x t)) h1
  | .app o e, ρ, h => (ev o ρ h).bind fun x h1 => match x with
    | .cell n => (ev e ρ h1).bind fun y h2 => appV n y h2
    | _ => .bad
  | .lc tg it ifs elt vs, ρ, h => (evIt it ρ h).bind fun p h1 => lcV (fun ρ h => tvL ifs ρ h) (fun ρ h => ev elt ρ h) tg p.2 (wipeE ρ vs) p.1 [] h1
  | .rng1 _, _, _ => .bad
  | .rng2 _ _, _, _ => .bad
  | .rng3 _ _ _, _, _ => .bad
  | .zip _ _, _, _ => .bad
  | .enum _, _, _ => .bad
  | .over _, _, _ => .bad
  | .tru _, _, _ => .bad
  | .frz a, ρ, h => (ev a ρ h).bind fun x h1 => frzV h h1 x
  | .fls es, ρ, h => (evs es ρ h).bind fun xs h1 => if isPL xs = true then .ok (.lst xs) h1 else .ok (.cell h1.length) (h1 ++ [xs])
  | .fcall f es, ρ, h => (evs es ρ h).bind fun xs h1 => (C f xs h1).bind fun x h2 => frzV h1 h2 x
  | .fcallk f es pm, ρ, h => (evs es ρ h).bind fun xs h1 => (C f (pm.map fun i => xs.getD i .non) h1).bind fun x h2 => frzV h1 h2 x
  | .stop, _, _ => .bad
noncomputable def tv : E → Ev → Mm → R Bool
  | .and a b, ρ, h => (tv a ρ h).bind fun x h1 => match x with
    | true => tv b ρ h1
    | false => .ok false h1
  | .or a b, ρ, h => (tv a ρ h).bind fun x h1 => match x with
    | true => .ok true h1
    | false => tv b ρ h1
  | .not a, ρ, h => (tv a ρ h).bind fun x h1 => .ok (!x) h1
  | .tru a, ρ, h => (ev a ρ h).bind fun x h1 => boolOf h1 x
  | _, _, _ => .bad
noncomputable def tvL : List E → Ev → Mm → R Bool
  | [], _, h => .ok true h
  | [c], ρ, h => tv c ρ h
  | _ :: _ :: _, _, _ => .bad
noncomputable def evs : List E → Ev → Mm → R (List Vl)
  | [], _, h => .ok [] h
  | e :: es, ρ, h => (ev e ρ h).bind fun x h1 => (evs es ρ h1).bind fun xs h2 => .ok (x :: xs) h2
noncomputable def evo : Option E → Ev → Mm → R (Option Int)
  | none, _, h => .ok none h
  | some e, ρ, h => (ev e ρ h).bind fun x h1 => match x with
    | .int i => .ok (some i) h1
    | _ => .bad
/-- items, and what must stay meanwhile -/
noncomputable def evIt : E → Ev → Mm → R (List Vl × Watch)
  | .rng1 a, ρ, h => (ev a ρ h).bind fun x h1 => match x with
    | .int j => if small j then .ok (rngV 0 j.toNat, []) h1 else .bad
    | _ => .bad
  | .rng2 a b, ρ, h => (ev a ρ h).bind fun x h1 => (ev b ρ h1).bind fun y h2 => match x, y with
    | .int i, .int j => if small i && small j then .ok (rngV i (j - i).toNat, []) h2 else .bad
    | _, _ => .bad
  | .rng3 a b c, ρ, h => (ev a ρ h).bind fun x h1 => (ev b ρ h1).bind fun y h2 => (ev c ρ h2).bind fun z h3 => match x, y, z with
    | .int i, .int j, .int k => if small i && small j && decide (k = -1) then .ok (rngC i (-1) (i - j).toNat, []) h3 else .bad
    | _, _, _ => .bad
  | .zip a b, ρ, h => (ev a ρ h).bind fun x h1 => (ev b ρ h1).bind fun y h2 => match seqOf h2 x, seqOf h2 y with
    | some xs, some ys => .ok (zipV xs ys, watch h2 x ++ watch h2 y) h2
    | _, _ => .bad
  | .enum a, ρ, h => (ev a ρ h).bind fun x h1 => match seqOf h1 x with
    | some xs => .ok (enumV xs, watch h1 x) h1
    | none => .bad
  | .over a, ρ, h => (ev a ρ h).bind fun x h1 => match itV h1 x with
    | some p => .ok p h1
    | none => .bad
  | _, _, _ => .bad
end
mutual
noncomputable def ex : S → Ev → Mm → RS
  | .set i e, ρ, h => (ev C e ρ h).bindS ρ fun x h1 => .next (ρ.set i (some x)) h1
  | .par is es, ρ, h => (evs C es ρ h).bindS ρ fun xs h1 => match asgTs (is.map .nm) xs ρ with
    | some ρ1 => .next ρ1 h1
    | none => .bad
  | .tset tg e, ρ, h => (ev C e ρ h).bindS ρ fun x h1 => match asgT tg x ρ with
    | some ρ1 => .next ρ1 h1
    | none => .bad
  | .setix o i e, ρ, h => (ev C e ρ h).bindS ρ fun v h1 => (ev C o ρ h1).bindS ρ fun x h2 => (ev C i ρ h2).bindS ρ fun y h3 => match setixV x y v h3 with
    | some h4 => .next ρ h4
    | none => .bad
  | .ife c a b, ρ, h => (tv C c ρ h).bindS ρ fun x h1 => match x with
    | true => exs a ρ h1
    | false => exs b ρ h1
  | .forS tg it body, ρ, h => (evIt C it ρ h).bindS ρ fun p h1 => forV (fun ρ h => exs body ρ h) tg p.2 p.1 ρ h1
  | .ret e, ρ, h => (ev C e ρ h).bindS ρ fun x h1 => .ret x h1
  | .retN, _, h => .ret .non h
  | .expr e, ρ, h => (ev C e ρ h).bindS ρ fun _ h1 => .next ρ h1
  | .pass, ρ, h => .next ρ h
  | .brk, ρ, h => .brk ρ h
  | .cont, ρ, h => .cont ρ h
  | .stop, _, _ => .bad
noncomputable def exs : List S → Ev → Mm → RS
  | [], ρ, h => .next ρ h
  | s :: ss, ρ, h => match ex s ρ h with
    | .next ρ1 h1 => exs ss ρ1 h1
    | r => r
end
end
/-- a def: how many slots, parameters, the body -/
structure Fn where
  n : Nat
  ps : Nat
  body : List S
def RS.toR : RS → R Vl
  | .next _ h => .ok .non h
  | .ret v h => .ok v h
  | .brk _ _ => .bad
  | .cont _ _ => .bad
  | .err x _ h => .err x h
  | .bad => .bad
/-- calls to a depth of k -/
noncomputable def call (T : Str → Option Fn) : Nat → Str → List Vl → Mm → R Vl
  | 0, _, _, _ => .bad
  | k + 1, f, xs, h => match T f with
    | some fn => if xs.length = fn.ps ∧ fn.ps ≤ fn.n then (exs (call T k) fn.body (xs.map some ++ List.replicate (fn.n - fn.ps) none) h).toR else .bad
    | none => .bad
end IR

set_option Elab.async false
set_option linter.all false
set_option maxRecDepth 100000
namespace IR
open PySem PySem.Spec PyProof.Rows L2 Dl
/-! ## from the program's text -/
structure Cc where
  N : List Str
  sc : Scope
  vs : List Nat
  blk : Bool
  fns : List (Str × (List Str × List (List Str)))
  cons : List (Str × Int)
  bts : List Str
  fr : Bool := false
  nf : List Str := []
  mu : List Nat := []
  rm : Bool := false
def kindC (c : Cc) (x : Str) : Option NameKind := c.sc.names.lookup x
def isLoc (k : Option NameKind) : Bool := match k with
  | some .local => true
  | some .cell => true
  | _ => false
def isVis (k : Option NameKind) : Bool := match k with
  | some .local => true
  | some .cell => true
  | some .free => true
  | _ => false
def isGl (c : Cc) (x : Str) : Bool := decide (kindC c x = some .globalImplicit) && !(x == ("__debug__" : Str))
def idxOf (x : Str) : List Str → Option Nat
  | [] => none
  | y :: ys => if y = x then some 0 else (idxOf x ys).map (· + 1)
/-- a name that is read -/
def slotR (c : Cc) (x : Str) : Option Nat :=
  if isVis (kindC c x) && !(x == ("__debug__" : Str)) && !(x == ("__classdict__" : Str)) then idxOf x c.N else none
/-- a name that is stored -/
def slotW (c : Cc) (x : Str) : Option Nat :=
  if !(x == ("__debug__" : Str)) && !(x == ("__classdict__" : Str)) then
    if c.blk then
      if decide (kindC c x = some .local) then match idxOf x c.N with
        | some i => if c.vs.contains i then some i else none
        | none => none
      else none
    else if isLoc (kindC c x) then idxOf x c.N else none
  else none
def notStar : Expr → Bool
  | .Starred _ _ => false
  | _ => true
def notComp : Expr → Bool
  | .ListComp _ _ _ _ => false
  | .SetComp _ _ _ _ => false
  | .DictComp _ _ _ _ _ => false
  | _ => true
def notSlice : Expr → Bool
  | .Slice _ _ _ _ => false
  | _ => true
def notSet : Expr → Bool
  | .Set _ _ _ => false
  | _ => true
def notTup : Expr → Bool
  | .Tuple _ _ _ => false
  | _ => true
def isTup : Expr → Bool
  | .Tuple _ _ _ => true
  | _ => false
/-- a plain base of an attribute -/
def plainB : Expr → Bool
  | .Name _ _ => true
  | .Subscript _ _ _ => true
  | _ => false
def opC : Operator → Option Op
  | .Add => some .add | .Sub => some .sub | .Mult => some .mul | .FloorDiv => some .fdiv | .Mod => some .mod | .Pow => some .pow
  | _ => none
def cpC : CmpOp → Option Cp
  | .Lt => some .lt | .LtE => some .le | .Gt => some .gt | .GtE => some .ge | .Eq => some .eq | .NotEq => some .ne | .Is => some .is | .IsNot => some .isNot
  | _ => none
def Bi.nm : Bi → Str
  | .len => "len" | .abs => "abs" | .max => "max" | .min => "min" | .toInt => "int" | .list => "list" | .tuple => "tuple" | .sum => "sum" | .all => "all" | .repr => "repr"
def biC (x : Str) : Option Bi := [Bi.len, .abs, .max, .min, .toInt, .list, .tuple, .sum, .all, .repr].find? fun b => b.nm == x
def Ty.nm : Ty → Str
  | .int => "int" | .bool => "bool" | .str => "str" | .list => "list" | .tuple => "tuple"
def tyC (x : Str) : Option Ty := [Ty.int, .bool, .str, .list, .tuple].find? fun b => b.nm == x
def permC (ks ps : List Str) : List Nat := ps.filterMap fun p => idxOf p ks
def kwNames : List Keyword → Option (List Str)
  | [] => some []
  | ⟨some x, _, _⟩ :: ks => (kwNames ks).map (x :: ·)
  | _ :: _ => none
def useB (c : Cc) (x : Str) : Bool := isGl c x && c.bts.contains x
def ownC (c : Cc) (scope : Scope) : List (Str × Nat) :=
  scope.names.filterMap fun y => if isLoc (some y.2) then (idxOf y.1 c.N).map fun i => (y.1, i) else none
def blkOf (c : Cc) (scope : Scope) : Cc := { c with sc := relS scope c.sc, vs := (ownC c scope).map (·.2), blk := true }
mutual
def cTg (c : Cc) : Expr → Option Tg
  | .Name x _ => (slotW c x).map .nm
  | .Tuple ts _ _ => (cTgs c ts).map .tup
  | _ => none
def cTgs (c : Cc) : List Expr → Option (List Tg)
  | [] => some []
  | t :: ts => match cTg c t, cTgs c ts with
    | some a, some b => some (a :: b)
    | _, _ => none
end
def isLst : Expr → Bool
  | .List _ _ => true
  | _ => false
structure Cr where
  v : E
  t : E
  i : E
  m : E
def dfl (v : E) : Cr := ⟨v, .tru v, .over v, v⟩
def stp : Cr := ⟨.stop, .stop, .stop, .stop⟩
def Cc.fz (c : Cc) (v : E) : E := if c.fr then .frz v else v
def Cc.fl (c : Cc) (es : List E) : E := if c.fr && decide (es.length ≤ 1000) then .fls es else .lst es
def dflZ (c : Cc) (v : E) : Cr := ⟨c.fz v, .tru (c.fz v), .over (c.fz v), v⟩
def Cc.fc (c : Cc) (f : Str) : Bool := c.fr && !(c.nf.contains f)
def dflC (c : Cc) (f : Str) (es : List E) : Cr := if c.fc f then ⟨.fcall f es, .tru (.fcall f es), .over (.fcall f es), .call f es⟩ else dfl (.call f es)
def dflK (c : Cc) (f : Str) (es : List E) (pm : List Nat) : Cr := if c.fc f then ⟨.fcallk f es pm, .tru (.fcallk f es pm), .over (.fcallk f es pm), .callk f es pm⟩ else dfl (.callk f es pm)
def itOk (tup : Bool) : E → Bool
  | .zip _ _ => tup
  | .enum _ => tup
  | _ => true
def nameC (c : Cc) (x : Str) : E := match slotR c x with
    | some i => .loc i
    | none => if isGl c x then match c.cons.lookup x with
      | some v => .int v
      | none => .stop else .stop
def attrC (at' : Str) (o : Expr) (p1 : Pos) (args : List Expr) (kws : List Keyword) (p2 : Pos) (vo : E) (vs : List E) : Cr :=
  match args, kws, vs with
  | [e], [], [v] => if at' == ("append" : Str) && plainB o && notStar e && (p1.endLine == p2.line) then ⟨.app vo v, .stop, .stop, .app vo v⟩ else stp
  | _, _, _ => stp
def isiC (c : Cc) (es : List Expr) (v : E) : Cr :=
  match es with
  | [.Name t _] => match tyC t with
    | some t => if useB c t.nm then dfl (.isi v t) else stp
    | none => stp
  | _ => stp
def bltC (c : Cc) (f : Str) (es : List Expr) (v : E) (vs : List E) : Cr :=
  if f == ("isinstance" : Str) then isiC c es v
  else if f == ("range" : Str) then match vs with
    | [] => ⟨.stop, .stop, .rng1 v, .stop⟩
    | [b] => ⟨.stop, .stop, .rng2 v b, .stop⟩
    | [b, d] => ⟨.stop, .stop, .rng3 v b d, .stop⟩
    | _ => stp
  else if f == ("enumerate" : Str) then match vs with
    | [] => ⟨.stop, .stop, .enum v, .stop⟩
    | _ => stp
  else if f == ("zip" : Str) then match vs with
    | [b] => ⟨.stop, .stop, .zip v b, .stop⟩
    | _ => stp
  else match biC f with
    | some b => (if b = .list then dflZ c (.bi b (v :: vs)) else dfl (.bi b (v :: vs)))
    | none => stp
def callC (c : Cc) (f : Str) (args : List Expr) (kws : List Keyword) (vs ks : List E) : Cr :=
  if isGl c f then
    match args, kws, vs with
    | _ :: es, [], v :: vs => if args.all notStar then match c.fns.lookup f with
        | some _ => dflC c f (v :: vs)
        | none => if c.bts.contains f then bltC c f es v vs else stp
      else stp
    | [], _ :: _, _ => match c.fns.lookup f, kwNames kws with
      | some (ps, ords), some ns => if ords.contains ns then dflK c f ks (permC ns ps) else stp
      | _, _ => stp
    | _, _, _ => stp
  else stp
def lcC (c : Cc) (scope : Scope) (tg it : Expr) (ifs : List Expr) (vi : E) (vt : List E) (ve : E) : Cr :=
  match cTg (blkOf c scope) tg with
  | some t => if blkC c.N c.sc scope (ownC c scope) && !(ownC c scope).isEmpty && notSet it && decide (ifs.length ≤ 1) && itOk (isTup tg) vi then
      ⟨c.fz (.lc t vi vt ve ((ownC c scope).map (·.2))), .stop, .over (c.fz (.lc t vi vt ve ((ownC c scope).map (·.2)))), .lc t vi vt ve ((ownC c scope).map (·.2))⟩ else stp
  | none => stp
mutual
def cE (c : Cc) : Expr → Cr
  | .Constant (.int i) _ _ => dfl (.int i)
  | .Constant (.bool b) _ _ => dfl (.bl b)
  | .Constant .none _ _ => dfl .non
  | .Constant (.str s) _ _ => dfl (.str s)
  | .Name x _ => dfl (nameC c x)
  | .BinOp a o b _ => match opC o with
    | some o => if isLst a then dflZ c (.bin o (cE c a).m (cE c b).v) else ⟨.bin o (cE c a).v (cE c b).v, .tru (.bin o (cE c a).v (cE c b).v), .over (.bin o (cE c a).v (cE c b).v), .bin o (cE c a).m (cE c b).v⟩
    | none => stp
  | .UnaryOp .Not a _ => ⟨.not (cE c a).v, .not (cE c a).t, .stop, .not (cE c a).v⟩
  | .UnaryOp .USub a _ => dfl (.neg (cE c a).v)
  | .Compare a [o] [b] _ => match cpC o with
    | some o => if notSet b then dfl (.cmp o (cE c a).v (cE c b).v) else stp
    | none => stp
  | .Compare a [o, p] [b, d] _ => match cpC o, cpC p with
    | some o, some p => if notSet d then dfl (.chain o p (cE c a).v (cE c b).v (cE c d).v) else stp
    | _, _ => stp
  | .BoolOp .And es _ => ⟨cAnd c es, cAndT c es, .stop, cAnd c es⟩
  | .BoolOp .Or es _ => ⟨cOr c es, cOrT c es, .stop, cOr c es⟩
  | .IfExp t a b _ => ⟨.ite (cE c t).t (cE c a).v (cE c b).v, .stop, .over (.ite (cE c t).t (cE c a).v (cE c b).v), .ite (cE c t).t (cE c a).v (cE c b).v⟩
  | .Tuple es _ _ => if es.all notStar then ⟨.tup (cEs c es), .stop, .over (.tup (cEs c es)), .tup (cMs c es)⟩ else stp
  | .List es _ => if es.all notStar then ⟨c.fl (cEs c es), .stop, .over (c.fl (cEs c es)), .lst (cEs c es)⟩ else stp
  | .Subscript a (.Slice lo hi none _) _ => dflZ c (.slice (cE c a).v (cO c lo) (cO c hi))
  | .Subscript a b _ => if notSlice b && notTup b then dfl (.ix (cE c a).v (cE c b).v) else stp
  | .Call (.Attribute o at' p1) args kws p2 => attrC at' o p1 args kws p2 (cE c o).v (cEs c args)
  | .Call (.Name f _) args kws _ => callC c f args kws (cEs c args) (cKs c kws)
  | .ListComp elt [⟨tg, it, ifs, 0⟩] scope _ => lcC c scope tg it ifs (cE c it).i (cTs (blkOf c scope) ifs) (cE (blkOf c scope) elt).v
  | _ => stp
def cEs (c : Cc) : List Expr → List E
  | [] => []
  | e :: es => (cE c e).v :: cEs c es
def cMs (c : Cc) : List Expr → List E
  | [] => []
  | e :: es => (cE c e).m :: cMs c es
def cTs (c : Cc) : List Expr → List E
  | [] => []
  | e :: es => (cE c e).t :: cTs c es
def cAnd (c : Cc) : List Expr → E
  | [] => .stop
  | [a] => (cE c a).v
  | a :: b :: es => .and (cE c a).v (cAnd c (b :: es))
def cOr (c : Cc) : List Expr → E
  | [] => .stop
  | [a] => (cE c a).v
  | a :: b :: es => .or (cE c a).v (cOr c (b :: es))
def cAndT (c : Cc) : List Expr → E
  | [] => .stop
  | [a] => (cE c a).t
  | a :: b :: es => .and (cE c a).t (cAndT c (b :: es))
def cOrT (c : Cc) : List Expr → E
  | [] => .stop
  | [a] => (cE c a).t
  | a :: b :: es => .or (cE c a).t (cOrT c (b :: es))
def cO (c : Cc) : Option Expr → Option E
  | none => none
  | some e => some (cE c e).v
def cKs (c : Cc) : List Keyword → List E
  | [] => []
  | ⟨_, e, _⟩ :: ks => (cE c e).v :: cKs c ks
end
/-- stores that are exchanged, as Python does -/
def lineOf (e : Expr) : Nat := e.pos.line
def swapF (c : Cc) (l : Nat) : Expr → Option Str
  | .Name id pos => if c.sc.names.lookup id == some .local && pos.line == l then some id else none
  | _ => none
def swapNs (c : Cc) (ts : List Expr) : List Str := ts.filterMap (swapF c ((ts.head?.map (·.pos.line)).getD 0))
def swapOk (c : Cc) (ts vs : List Expr) : Bool :=
  (ts.length == 2 || ts.length == 3) && vs.length == ts.length && decide (c.sc.kind = .function) && vs.all notStar && (swapNs c ts).length == ts.length && (swapNs c ts).eraseDups.length == (swapNs c ts).length &&
    !(vs.all (foldedForSure 8)) && !(vs.all (constantsAlone 8))
def swapNo (ts vs : List Expr) : Bool := !(ts.length == 2 || ts.length == 3) || vs.all (foldedForSure 8)
def nameE : Expr → Bool
  | .Name _ _ => true
  | _ => false
def nmOf : Tg → Option Nat
  | .nm i => some i
  | _ => none
def lcOk (c : Cc) (n : Str) (py : Pos) : Expr → Bool
  | .ListComp elt [⟨tg, it, ifs, 0⟩] scope pos => decide (c.sc.kind = .function) && decide (c.sc.names.lookup n = some .local) && (py.line == pos.line) && !(scope.names.any fun (m, k) => m == n && (k == .local || k == .cell))
  | _ => false
def mV (c : Cc) (i : Nat) (r : Cr) : E := if c.mu.contains i then r.m else r.v
def mVs (c : Cc) : List Nat → List Expr → List E
  | i :: is, e :: es => mV c i (cE c e) :: mVs c is es
  | _, _ => []
def rV (c : Cc) (r : Cr) : E := if c.rm then r.m else r.v
mutual
def cS (c : Cc) : Stmt → S
  | .Assign [.Name x py] e p => match slotW c x with
    | some i => if notComp e then .set i (mV c i (cE c e)) else if lcOk c x py e then .set i (mV c i (cE c e)) else .stop
    | none => .stop
  | .Assign [.Tuple ts k1 p1] (.Tuple vs k2 p2) p => match cTgs c ts with
    | some tgs => if swapNo ts vs || !((swapNs c ts).length == ts.length) then (if vs.all notStar then .tset (.tup tgs) (.tup (if ts.all nameE && decide (vs.length = (tgs.filterMap nmOf).length) then mVs c (tgs.filterMap nmOf) vs else cEs c vs)) else .stop)
      else if swapOk c ts vs && ts.all nameE then .par (tgs.filterMap nmOf) (mVs c (tgs.filterMap nmOf) vs)
      else .stop
    | none => .stop
  | .Assign [.Tuple ts k1 p1] e p => if notTup e && notComp e then match cTgs c ts with
      | some tgs => .tset (.tup tgs) (cE c e).v
      | none => .stop
    else .stop
  | .Assign [.Subscript o i p1] e p => if notComp e && notSlice i && notTup i then .setix (cE c o).v (cE c i).v (cE c e).v else .stop
  | .If t a b _ => .ife (cE c t).t (cSs c a) (cSs c b)
  | .For tg it body [] _ => match cTg c tg with
    | some t => if notSet it && itOk (isTup tg) (cE c it).i then .forS t (cE c it).i (cSs c body) else .stop
    | none => .stop
  | .Return (some e) _ => .ret (rV c (cE c e))
  | .Return none _ => .retN
  | .Expr e _ => if notComp e then .expr (cE c e).v else .stop
  | .Pass _ => .pass
  | .Break _ => .brk
  | .Continue _ => .cont
  | _ => .stop
def cSs (c : Cc) : List Stmt → List S
  | [] => []
  | s :: ss => cS c s :: cSs c ss
end
end IR

set_option Elab.async false
set_option linter.all false
set_option maxRecDepth 100000
set_option maxHeartbeats 2000000
namespace IR
open PySem PySem.Spec PyProof.Rows L2 Dl
mutual
theorem Pur.inj : ∀ {x : Vl} {d d' : PyData}, Pur x d → Pur x d' → d = d'
  | _, _, _, .non, .non => rfl
  | _, _, _, .bl b, .bl _ => rfl
  | _, _, _, .int b, .int _ => rfl
  | _, _, _, .str b, .str _ => rfl
  | _, _, _, .frz b, .frz _ => rfl
  | _, _, _, .tup a, .tup b => by rw [PurL.inj a b]
  | _, _, _, .lst a, .lst b => by rw [PurL.inj a b]
theorem PurL.inj : ∀ {x : List Vl} {d d' : List PyData}, PurL x d → PurL x d' → d = d'
  | _, _, _, .nil, .nil => rfl
  | _, _, _, .cons a b, .cons c d => by rw [Pur.inj a c, PurL.inj b d]
end
theorem PurL.len : ∀ {x : List Vl} {d : List PyData}, PurL x d → x.length = d.length
  | _, _, .nil => rfl
  | _, _, .cons _ b => by rw [List.length_cons, List.length_cons, PurL.len b]
theorem PurL.app : ∀ {x y : List Vl} {d e : List PyData}, PurL x d → PurL y e → PurL (x ++ y) (d ++ e)
  | _, _, _, _, .nil, h => h
  | _, _, _, _, .cons a b, h => .cons a (PurL.app b h)
theorem PurL.get : ∀ {x : List Vl} {d : List PyData} (i : Nat) {v : Vl}, PurL x d → x[i]? = some v → ∃ q, d[i]? = some q ∧ Pur v q
  | _, _, i, _, .nil, h => by simp at h
  | _, _, 0, _, .cons a _, h => by simp at h; subst h; exact ⟨_, rfl, a⟩
  | _, _, i + 1, _, .cons _ b, h => by
    obtain ⟨q, h1, h2⟩ := PurL.get i b (by simpa using h)
    exact ⟨q, by simpa using h1, h2⟩
theorem PurL.drop : ∀ {x : List Vl} {r : List PyData} (i : Nat), PurL x r → PurL (x.drop i) (r.drop i)
  | _, _, _, .nil => by simp; exact .nil
  | _, _, 0, .cons a b => .cons a b
  | _, _, i + 1, .cons _ b => PurL.drop i b
theorem PurL.take : ∀ {x : List Vl} {r : List PyData} (i : Nat), PurL x r → PurL (x.take i) (r.take i)
  | _, _, _, .nil => by simp; exact .nil
  | _, _, 0, .cons a b => .nil
  | _, _, i + 1, .cons a b => .cons a (PurL.take i b)
theorem PurL.cut {x : List Vl} {r : List PyData} (h : PurL x r) (l u : Option Int) : PurL (Dl.cutD x l u) (Dl.cutD r l u) := by
  unfold Dl.cutD; rw [h.len]; exact PurL.take _ (PurL.drop _ h)
theorem PurL.rep {xs : List Vl} {ds : List PyData} (a : PurL xs ds) : ∀ n, PurL (repL xs n) (List.replicate n ds).flatten
  | 0 => .nil
  | n + 1 => by unfold repL; rw [List.replicate_succ, List.replicate_succ, List.flatten_cons, List.flatten_cons]; exact PurL.app a (PurL.rep a n)
theorem PurL.ints : ∀ (ns : List Int), PurL (ns.map .int) (ns.map .int)
  | [] => .nil
  | n :: ns => .cons (.int n) (PurL.ints ns)
/-! ## values and what the slots hold -/
mutual
inductive Rel (as : List Addr) : Vl → Rv → Prop
  | non : Rel as .non (.d .none)
  | bl (b : Bool) : Rel as (.bl b) (.d (.bool b))
  | int (i : Int) : Rel as (.int i) (.d (.int i))
  | str (s : Str) : Rel as (.str s) (.d (.str s))
  | frz (ns : List Int) : Rel as (.frz ns) (.d (dI ns))
  | cell {n : Nat} {a : Addr} : as[n]? = some a → Rel as (.cell n) (.cell a)
  | tup {xs : List Vl} {rs : List Rv} : RelL as xs rs → Rel as (.tup xs) (.tup rs)
  | lst {xs : List Vl} {ds : List PyData} : PurL xs ds → Rel as (.lst xs) (.d (.list ds))
inductive RelL (as : List Addr) : List Vl → List Rv → Prop
  | nil : RelL as [] []
  | cons {x : Vl} {r : Rv} {xs : List Vl} {rs : List Rv} : Rel as x r → RelL as xs rs → RelL as (x :: xs) (r :: rs)
end
inductive RelLL (as : List Addr) : List (List Vl) → List (List Rv) → Prop
  | nil : RelLL as [] []
  | cons {x : List Vl} {r : List Rv} {xs : List (List Vl)} {rs : List (List Rv)} : RelL as x r → RelLL as xs rs → RelLL as (x :: xs) (r :: rs)
theorem pre_get {α : Type} {as as' : List α} (h : as <+: as') {n : Nat} {a : α} (e : as[n]? = some a) : as'[n]? = some a := by
  obtain ⟨t, rfl⟩ := h
  have hl := (List.getElem?_eq_some_iff.mp e).1
  rw [List.getElem?_append_left hl]; exact e
mutual
theorem Rel.mono {as as' : List Addr} (h : as <+: as') : ∀ {x : Vl} {r : Rv}, Rel as x r → Rel as' x r
  | _, _, .non => .non
  | _, _, .bl b => .bl b
  | _, _, .int b => .int b
  | _, _, .str b => .str b
  | _, _, .frz b => .frz b
  | _, _, .cell e => .cell (pre_get h e)
  | _, _, .tup a => .tup (RelL.mono h a)
  | _, _, .lst a => .lst a
theorem RelL.mono {as as' : List Addr} (h : as <+: as') : ∀ {x : List Vl} {r : List Rv}, RelL as x r → RelL as' x r
  | _, _, .nil => .nil
  | _, _, .cons a b => .cons (Rel.mono h a) (RelL.mono h b)
end
theorem RelLL.mono {as as' : List Addr} (h : as <+: as') : ∀ {x : List (List Vl)} {r : List (List Rv)}, RelLL as x r → RelLL as' x r
  | _, _, .nil => .nil
  | _, _, .cons a b => .cons (RelL.mono h a) (RelLL.mono h b)
mutual
theorem Rel.inj {as : List Addr} : ∀ {x : Vl} {r r' : Rv}, Rel as x r → Rel as x r' → r = r'
  | _, _, _, .non, .non => rfl
  | _, _, _, .bl b, .bl _ => rfl
  | _, _, _, .int b, .int _ => rfl
  | _, _, _, .str b, .str _ => rfl
  | _, _, _, .frz b, .frz _ => rfl
  | _, _, _, .cell e, .cell e' => by rw [e] at e'; cases e'; rfl
  | _, _, _, .tup a, .tup b => by rw [RelL.inj a b]
  | _, _, _, .lst a, .lst b => by rw [PurL.inj a b]
theorem RelL.inj {as : List Addr} : ∀ {x : List Vl} {r r' : List Rv}, RelL as x r → RelL as x r' → r = r'
  | _, _, _, .nil, .nil => rfl
  | _, _, _, .cons a b, .cons c d => by rw [Rel.inj a c, RelL.inj b d]
end
/-- what plain values may be seen as -/
def UpL (ds : List PyData) (rs : List Rv) : Prop := ∀ (K : Frg) (B : Hp) (vs : List V), DpAll K B vs ds → RvAll K B vs rs
mutual
theorem Pur.up (as : List Addr) : ∀ {x : Vl} {d : PyData}, Pur x d → ∃ r, Rel as x r ∧ ∀ (K : Frg) (B : Hp) (v : V), Dp K B v d → RvOk K B v r
  | _, _, .non => ⟨_, .non, fun _ _ _ q => .d q⟩
  | _, _, .bl b => ⟨_, .bl b, fun _ _ _ q => .d q⟩
  | _, _, .int b => ⟨_, .int b, fun _ _ _ q => .d q⟩
  | _, _, .str b => ⟨_, .str b, fun _ _ _ q => .d q⟩
  | _, _, .frz b => ⟨_, .frz b, fun _ _ _ q => .d q⟩
  | _, _, .lst a => ⟨_, .lst a, fun _ _ _ q => .d q⟩
  | _, _, .tup a => by
    obtain ⟨rs, h1, h2⟩ := PurL.up as a
    exact ⟨_, .tup h1, fun K B v q => by cases q with | tup h a => exact .tup h (h2 K B _ a)⟩
theorem PurL.up (as : List Addr) : ∀ {x : List Vl} {d : List PyData}, PurL x d → ∃ r, RelL as x r ∧ UpL d r
  | _, _, .nil => ⟨_, .nil, fun _ _ _ q => by cases q; exact .nil⟩
  | _, _, .cons a b => by
    obtain ⟨r, h1, h2⟩ := Pur.up as a
    obtain ⟨rs, h3, h4⟩ := PurL.up as b
    exact ⟨_, .cons h1 h3, fun K B vs q => by cases q with | cons a b => exact .cons (h2 K B _ a) (h4 K B _ b)⟩
end
mutual
theorem Rel.pure {as as' : List Addr} : ∀ {x : Vl} {d : PyData} {r : Rv}, Pur x d → Rel as x r → Rel as' x r
  | _, _, _, .non, .non => .non
  | _, _, _, .bl b, .bl _ => .bl b
  | _, _, _, .int b, .int _ => .int b
  | _, _, _, .str b, .str _ => .str b
  | _, _, _, .frz b, .frz _ => .frz b
  | _, _, _, .lst a, .lst b => .lst b
  | _, _, _, .tup a, .tup b => .tup (RelL.pure a b)
theorem RelL.pure {as as' : List Addr} : ∀ {x : List Vl} {d : List PyData} {r : List Rv}, PurL x d → RelL as x r → RelL as' x r
  | _, _, _, .nil, .nil => .nil
  | _, _, _, .cons a b, .cons c d => .cons (Rel.pure a c) (RelL.pure b d)
end
theorem RelL.len {as : List Addr} : ∀ {x : List Vl} {r : List Rv}, RelL as x r → x.length = r.length
  | _, _, .nil => rfl
  | _, _, .cons _ b => by rw [List.length_cons, List.length_cons, RelL.len b]
theorem RelL.app {as : List Addr} : ∀ {x y : List Vl} {r q : List Rv}, RelL as x r → RelL as y q → RelL as (x ++ y) (r ++ q)
  | _, _, _, _, .nil, h => h
  | _, _, _, _, .cons a b, h => .cons a (RelL.app b h)
theorem RelL.get {as : List Addr} : ∀ {x : List Vl} {r : List Rv} (i : Nat) {v : Vl}, RelL as x r → x[i]? = some v → ∃ q, r[i]? = some q ∧ Rel as v q
  | _, _, i, _, .nil, h => by simp at h
  | _, _, 0, _, .cons a _, h => by simp at h; subst h; exact ⟨_, rfl, a⟩
  | _, _, i + 1, _, .cons _ b, h => by
    obtain ⟨q, h1, h2⟩ := RelL.get i b (by simpa using h)
    exact ⟨q, by simpa using h1, h2⟩
theorem RelL.set {as : List Addr} {v : Vl} {q : Rv} (hv : Rel as v q) : ∀ {x : List Vl} {r : List Rv} (i : Nat), RelL as x r → RelL as (x.set i v) (r.set i q)
  | _, _, _, .nil => .nil
  | _, _, 0, .cons _ b => .cons hv b
  | _, _, i + 1, .cons a b => .cons a (RelL.set hv i b)
theorem RelL.drop {as : List Addr} : ∀ {x : List Vl} {r : List Rv} (i : Nat), RelL as x r → RelL as (x.drop i) (r.drop i)
  | _, _, _, .nil => by simp; exact .nil
  | _, _, 0, .cons a b => .cons a b
  | _, _, i + 1, .cons _ b => RelL.drop i b
theorem RelL.take {as : List Addr} : ∀ {x : List Vl} {r : List Rv} (i : Nat), RelL as x r → RelL as (x.take i) (r.take i)
  | _, _, _, .nil => by simp; exact .nil
  | _, _, 0, .cons a b => .nil
  | _, _, i + 1, .cons a b => .cons a (RelL.take i b)
theorem RelL.cut {as : List Addr} {x : List Vl} {r : List Rv} (h : RelL as x r) (l u : Option Int) : RelL as (Dl.cutD x l u) (Dl.cutD r l u) := by
  unfold Dl.cutD; rw [h.len]; exact RelL.take _ (RelL.drop _ h)
theorem RelL.ints {as : List Addr} : ∀ (ns : List Int), RelL as (ns.map .int) (ns.map fun i => .d (.int i))
  | [] => .nil
  | n :: ns => .cons (.int n) (RelL.ints ns)
theorem RelLL.len {as : List Addr} : ∀ {x : List (List Vl)} {r : List (List Rv)}, RelLL as x r → x.length = r.length
  | _, _, .nil => rfl
  | _, _, .cons _ b => by rw [List.length_cons, List.length_cons, RelLL.len b]
theorem RelLL.app {as : List Addr} : ∀ {x y : List (List Vl)} {r q : List (List Rv)}, RelLL as x r → RelLL as y q → RelLL as (x ++ y) (r ++ q)
  | _, _, _, _, .nil, h => h
  | _, _, _, _, .cons a b, h => .cons a (RelLL.app b h)
theorem RelLL.get {as : List Addr} : ∀ {x : List (List Vl)} {r : List (List Rv)} (i : Nat) {v : List Vl}, RelLL as x r → x[i]? = some v → ∃ q, r[i]? = some q ∧ RelL as v q
  | _, _, i, _, .nil, h => by simp at h
  | _, _, 0, _, .cons a _, h => by simp at h; subst h; exact ⟨_, rfl, a⟩
  | _, _, i + 1, _, .cons _ b, h => by
    obtain ⟨q, h1, h2⟩ := RelLL.get i b (by simpa using h)
    exact ⟨q, by simpa using h1, h2⟩
theorem RelLL.set {as : List Addr} {v : List Vl} {q : List Rv} (hv : RelL as v q) : ∀ {x : List (List Vl)} {r : List (List Rv)} (i : Nat), RelLL as x r → RelLL as (x.set i v) (r.set i q)
  | _, _, _, .nil => .nil
  | _, _, 0, .cons _ b => .cons hv b
  | _, _, i + 1, .cons a b => .cons a (RelLL.set hv i b)
/-! ## the memory -/
def memOf : List Addr → List (List Rv) → Mem
  | a :: as, r :: rs => memOf as rs ++ [(a, Is r)]
  | _, _ => []
def MOk (as : List Addr) (h : Mm) (M : Mem) : Prop := ∃ rows, RelLL as h rows ∧ as.length = rows.length ∧ M = memOf as rows
theorem memOf_snoc : ∀ {as : List Addr} {rows : List (List Rv)} {p : Addr} {r : List Rv}, as.length = rows.length → memOf (as ++ [p]) (rows ++ [r]) = (p, Is r) :: memOf as rows
  | [], [], _, _, _ => rfl
  | a :: as, r :: rows, p, q, h => by
    show memOf (as ++ [p]) (rows ++ [q]) ++ [(a, Is r)] = (p, Is q) :: (memOf as rows ++ [(a, Is r)])
    rw [memOf_snoc (by simpa using h)]; rfl
theorem MOk.new {as : List Addr} {h : Mm} {M : Mem} {p : Addr} {xs : List Vl} {rs : List Rv} (m : MOk as h M) (r : RelL as xs rs) : MOk (as ++ [p]) (h ++ [xs]) ((p, Is rs) :: M) := by
  obtain ⟨rows, h1, h2, h3⟩ := m
  have pre : as <+: as ++ [p] := List.prefix_append _ _
  refine ⟨rows ++ [rs], (h1.mono pre).app (.cons (r.mono pre) .nil), by simp [h2], ?_⟩
  rw [memOf_snoc h2, h3]
theorem MOk.len {as : List Addr} {h : Mm} {M : Mem} (m : MOk as h M) : as.length = h.length := by
  obtain ⟨rows, h1, h2, h3⟩ := m
  rw [h1.len, h2]
theorem cell_app {c : Addr} {P P' : List Rv → Prop} {N : Mem} : ∀ {M M' : Mem}, Cell c P P' M M' → Cell c P P' (M ++ N) (M' ++ N)
  | _, _, .h => .h
  | _, _, .t x => .t (cell_app x)
theorem has_app {c : Addr} {P : List Rv → Prop} {N : Mem} : ∀ {M : Mem}, Has c P M → Has c P (M ++ N)
  | _, .h => .h
  | _, .t x => .t (has_app x)
theorem has_end {c : Addr} {P : List Rv → Prop} : ∀ (M : Mem), Has c P (M ++ [(c, P)])
  | [] => .h
  | _ :: M => .t (has_end M)
theorem cell_end {c : Addr} {P P' : List Rv → Prop} : ∀ (M : Mem), Cell c P P' (M ++ [(c, P)]) (M ++ [(c, P')])
  | [] => .h
  | _ :: M => .t (cell_end M)
theorem memOf_has : ∀ {as : List Addr} {rows : List (List Rv)} {n : Nat} {a : Addr} {r : List Rv}, as[n]? = some a → rows[n]? = some r → Has a (Is r) (memOf as rows)
  | [], _, _, _, _, h, _ => by simp at h
  | _ :: _, [], _, _, _, _, h => by simp at h
  | a :: as, r :: rows, 0, _, _, h1, h2 => by simp at h1 h2; subst h1 h2; exact has_end _
  | a :: as, r :: rows, n + 1, _, _, h1, h2 => has_app (memOf_has (n := n) (by simpa using h1) (by simpa using h2))
theorem memOf_set {q : List Rv} : ∀ {as : List Addr} {rows : List (List Rv)} {n : Nat} {a : Addr} {r : List Rv}, as[n]? = some a → rows[n]? = some r → Cell a (Is r) (Is q) (memOf as rows) (memOf as (rows.set n q))
  | [], _, _, _, _, h, _ => by simp at h
  | _ :: _, [], _, _, _, _, h => by simp at h
  | a :: as, r :: rows, 0, _, _, h1, h2 => by simp at h1 h2; subst h1 h2; exact cell_end _
  | a :: as, r :: rows, n + 1, _, _, h1, h2 => cell_app (memOf_set (n := n) (by simpa using h1) (by simpa using h2))
theorem MOk.get {as : List Addr} {h : Mm} {M : Mem} {n : Nat} {a : Addr} {xs : List Vl} (m : MOk as h M) (e : as[n]? = some a) (x : h[n]? = some xs) : ∃ rs, RelL as xs rs ∧ Has a (Is rs) M := by
  obtain ⟨rows, h1, h2, h3⟩ := m
  obtain ⟨rs, e1, r⟩ := h1.get n x
  exact ⟨rs, r, by rw [h3]; exact memOf_has e e1⟩
theorem MOk.set {as : List Addr} {h : Mm} {M : Mem} {n : Nat} {a : Addr} {xs ys : List Vl} {rs qs : List Rv} (m : MOk as h M) (e : as[n]? = some a) (x : h[n]? = some xs) (rx : RelL as xs rs) (ry : RelL as ys qs) :
    ∃ M', Cell a (Is rs) (Is qs) M M' ∧ MOk as (h.set n ys) M' := by
  obtain ⟨rows, h1, h2, h3⟩ := m
  obtain ⟨rs', e1, r⟩ := h1.get n x
  cases r.inj rx
  refine ⟨memOf as (rows.set n qs), by rw [h3]; exact memOf_set e e1, rows.set n qs, h1.set ry n, by simp [h2], rfl⟩
/-! ## slots -/
inductive SRel (as : List Addr) : Option Vl → Rv → Prop
  | none : SRel as none .any
  | some {v : Vl} {r : Rv} : Rel as v r → SRel as (some v) r
inductive ERel (as : List Addr) : Ev → List Rv → Prop
  | nil : ERel as [] []
  | cons {o : Option Vl} {r : Rv} {ρ : Ev} {rs : List Rv} : SRel as o r → ERel as ρ rs → ERel as (o :: ρ) (r :: rs)
theorem SRel.mono {as as' : List Addr} (h : as <+: as') {x : Option Vl} {r : Rv} : SRel as x r → SRel as' x r
  | .none => .none
  | .some a => .some (a.mono h)
theorem ERel.mono {as as' : List Addr} (h : as <+: as') : ∀ {x : Ev} {r : List Rv}, ERel as x r → ERel as' x r
  | _, _, .nil => .nil
  | _, _, .cons a b => .cons (a.mono h) (ERel.mono h b)
theorem ERel.get {as : List Addr} : ∀ {ρ : Ev} {rs : List Rv} (i : Nat) {v : Vl}, ERel as ρ rs → ρ[i]? = some (some v) → ∃ q, rs[i]? = some q ∧ Rel as v q
  | _, _, i, _, .nil, h => by simp at h
  | _, _, 0, _, .cons a _, h => by simp at h; subst h; cases a with | some a => exact ⟨_, rfl, a⟩
  | _, _, i + 1, _, .cons _ b, h => by
    obtain ⟨q, h1, h2⟩ := ERel.get i b (by simpa using h)
    exact ⟨q, by simpa using h1, h2⟩
theorem ERel.set {as : List Addr} {o : Option Vl} {r : Rv} (s : SRel as o r) : ∀ {ρ : Ev} {rs : List Rv} (i : Nat), ERel as ρ rs → ERel as (ρ.set i o) (rs.set i r)
  | _, _, _, .nil => .nil
  | _, _, 0, .cons _ b => .cons s b
  | _, _, i + 1, .cons a b => .cons a (ERel.set s i b)
theorem ERel.wipe {as : List Addr} {ρ : Ev} {rs : List Rv} (h : ERel as ρ rs) : ∀ vs : List Nat, ERel as (wipeE ρ vs) (wipeR rs vs)
  | [] => h
  | v :: vs => ERel.set .none v (ERel.wipe h vs)
theorem ERel.start {as : List Addr} : ∀ {xs : List Vl} {rs : List Rv}, RelL as xs rs → ∀ n, ERel as (xs.map some ++ List.replicate n none) (rs ++ List.replicate n .any)
  | _, _, .cons a b, n => .cons (.some a) (ERel.start b n)
  | _, _, .nil, n => by
    induction n with
    | zero => exact .nil
    | succ n ih => exact .cons .none ih
theorem Rel.notAny {as : List Addr} {v : Vl} {r : Rv} (h : Rel as v r) : r.isAny = false := by cases h <;> rfl
/-! ## what is wished of a result -/
def XRel (mg : Str → Option Value) (x : Exn) (e : EV) : Prop := mg x.cls = some e.cls ∧ e.fs = x.fs
abbrev Mg := Str → Option Value
def PV {α : Type} (mg : Mg) (as : List Addr) (r : R α) (Q : List Addr → α → Mm → Prop) (Ξ : EV → Mem → Prop) : Prop :=
  match r with
  | .ok a h' => ∀ as', as <+: as' → Q as' a h'
  | .err x h' => ∀ as' e M', as <+: as' → XRel mg x e → MOk as' h' M' → Ξ e M'
  | .bad => False
def QV (Φ : Pst) : List Addr → Vl → Mm → Prop := fun as' v h' => ∀ r M', Rel as' v r → MOk as' h' M' → Φ r M'
abbrev Post (mg : Mg) (as : List Addr) (r : R Vl) (Φ : Pst) (Ξ : EV → Mem → Prop) : Prop := PV mg as r (QV Φ) Ξ
theorem PV.mono {α : Type} {mg : Mg} {as as' : List Addr} {r : R α} {Q : List Addr → α → Mm → Prop} {Ξ : EV → Mem → Prop} (h : as <+: as') (p : PV mg as r Q Ξ) : PV mg as' r Q Ξ := by
  cases r with
  | ok a h' => exact fun as'' k => p as'' (h.trans k)
  | err x h' => exact fun as'' e M' k => p as'' e M' (h.trans k)
  | bad => exact p
theorem pv_bind {α β : Type} {mg : Mg} {as : List Addr} {r : R α} {f : α → Mm → R β} {Q : List Addr → β → Mm → Prop} {Ξ : EV → Mem → Prop} (p : PV mg as (r.bind f) Q Ξ) : PV mg as r (fun as' a h' => PV mg as' (f a h') Q Ξ) Ξ := by
  cases r with
  | ok a h' => exact fun as' k => p.mono k
  | err x h' => exact p
  | bad => exact p
theorem PV.imp {α : Type} {mg : Mg} {as : List Addr} {r : R α} {Q Q' : List Addr → α → Mm → Prop} {Ξ : EV → Mem → Prop} (p : PV mg as r Q Ξ) (k : ∀ as' a h', as <+: as' → Q as' a h' → Q' as' a h') : PV mg as r Q' Ξ := by
  cases r with
  | ok a h' => exact fun as' e => k _ _ _ e (p as' e)
  | err x h' => exact p
  | bad => exact p
def QL (Ψ : List Rv → Mem → Prop) : List Addr → List Vl → Mm → Prop := fun as' v h' => ∀ r M', RelL as' v r → MOk as' h' M' → Ψ r M'
def QT (Ψ : Bool → Mem → Prop) : List Addr → Bool → Mm → Prop := fun as' b h' => ∀ M', MOk as' h' M' → Ψ b M'
/-- what a def promises: its run here -/
def pdI (mg : Mg) (C : Str → List Vl → Mm → R Vl) (f : Str) (n : Nat) : Prom := fun rs M Φ Ξ => rs.length = n ∧ ∃ as vs h, RelL as vs rs ∧ MOk as h M ∧ Post mg as (C f vs h) Φ Ξ
end IR

set_option Elab.async false
set_option linter.all false
set_option maxRecDepth 100000
set_option maxHeartbeats 2000000
namespace IR
open PySem PySem.Spec PyProof.Rows L2 Dl
section
variable {X : Cx} {mg : Mg} {as : List Addr} {h : Mm} {M : Mem} {Φ : Pst} {ξ : EV → Mem → Prop}
theorem post_new {xs : List Vl} {rs : List Rv} (p : Post mg as (.ok (.cell h.length) (h ++ [xs])) Φ ξ) (m : MOk as h M) (r : RelL as xs rs) (a : Addr) : Φ (.cell a) ((a, Is rs) :: M) := by
  have pre : as <+: as ++ [a] := List.prefix_append _ _
  refine p (as ++ [a]) pre (.cell a) _ (.cell ?_) (m.new r)
  rw [← m.len]; simp
theorem post_val {v : Vl} {r : Rv} (p : Post mg as (.ok v h) Φ ξ) (m : MOk as h M) (q : Rel as v r) : Φ r M := p as List.prefix_rfl r M q m
theorem sqv {K : Frg} {B H : Hp} {v : V} {x : Vl} {r : Rv} {xs : List Vl} (ok : Ok K B H M) (m : MOk as h M) (hs : seqOf h x = some xs) (rx : Rel as x r) (q : RvOk K B v r) :
    ∃ a vs rs, v = .ref a ∧ SqL K H a vs ∧ RvAll K B vs rs ∧ RelL as xs rs := by
  cases rx with
  | cell e =>
    cases q
    obtain ⟨rs, r1, hm⟩ := m.get e hs
    obtain ⟨_, vs, rs', hH, ha, hP⟩ := ok.mem _ hm.mem
    have e2 : rs' = rs := hP
    subst e2
    exact ⟨_, vs, _, rfl, .of hH, ha, r1⟩
  | frz ns =>
    cases q with
    | d q => cases q with
      | lst hs' ha =>
        have e3 : xs = ns.map .int := by simp only [seqOf] at hs; exact (Option.some.inj hs).symm
        subst e3
        refine ⟨_, _, _, rfl, ok.ext.seq hs', RvAll.ofData ha, ?_⟩
        rw [List.map_map]; exact RelL.ints ns
  | lst pu =>
    cases q with
    | d q => cases q with
      | lst hs' ha =>
        simp only [seqOf, Option.some.injEq] at hs
        subst hs
        obtain ⟨rs, h1, h2⟩ := pu.up as
        exact ⟨_, _, rs, rfl, ok.ext.seq hs', h2 _ _ _ ha, h1⟩
  | non => cases hs
  | bl => cases hs
  | int => cases hs
  | str => cases hs
  | tup => cases hs
theorem tupv {K : Frg} {B H : Hp} {v : V} {r : Rv} {xs : List Vl} (ok : Ok K B H M) (rx : Rel as (.tup xs) r) (q : RvOk K B v r) :
    ∃ a vs rs, v = .ref a ∧ SqT K H a vs ∧ RvAll K B vs rs ∧ RelL as xs rs := by
  cases rx with
  | tup hr => cases q with
    | tup h1 h2 => exact ⟨_, _, _, rfl, sq_mono ok.ext h1, h2, hr⟩
theorem rvAll_rep {K : Frg} {B : Hp} {vs : List V} {rs : List Rv} (a : RvAll K B vs rs) : ∀ n, RvAll K B (List.replicate n vs).flatten (List.replicate n rs).flatten
  | 0 => .nil
  | n + 1 => by rw [List.replicate_succ, List.replicate_succ, List.flatten_cons, List.flatten_cons]; exact RvAll.app a (rvAll_rep a n)
theorem relL_rep {xs : List Vl} {rs : List Rv} (a : RelL as xs rs) : ∀ n, RelL as (repL xs n) (List.replicate n rs).flatten
  | 0 => .nil
  | n + 1 => by unfold repL; rw [List.replicate_succ, List.replicate_succ, List.flatten_cons, List.flatten_cons]; exact RelL.app a (relL_rep a n)
def opv : Op → Operator
  | .add => .Add | .sub => .Sub | .mul => .Mult | .fdiv => .FloorDiv | .mod => .Mod | .pow => .Pow
theorem opC_eq {o : Operator} {p : Op} (h : opC o = some p) : o = opv p := by cases o <;> simp [opC] at h <;> subst h <;> rfl
def cpv : Cp → CmpOp
  | .lt => .Lt | .le => .LtE | .gt => .Gt | .ge => .GtE | .eq => .Eq | .ne => .NotEq | .is => .Is | .isNot => .IsNot
theorem cpC_eq {o : CmpOp} {p : Cp} (h : cpC o = some p) : o = cpv p := by cases o <;> simp [cpC] at h <;> subst h <;> rfl
theorem bin_ok {o : Op} {x y : Vl} {r q : Rv} (p : Post mg as (binV o x y h) Φ ξ) (m : MOk as h M) (rx : Rel as x r) (ry : Rel as y q) : G2 X (binaryOp (opv o)) r q M Φ := by
  cases rx with
  | int i =>
    cases ry with
    | int j =>
      cases o with
      | add => exact g2_add (post_val p m (.int _))
      | sub => exact g2_sub (post_val p m (.int _))
      | mul =>
        simp only [binV] at p
        split at p
        · rename_i hb
          simp only [wid, Bool.and_eq_true, decide_eq_true_eq] at hb
          exact g2_mul (wide_mul hb.1 hb.2 (by decide) (by decide) (by decide)) (post_val p m (.int _))
        · exact p.elim
      | fdiv =>
        simp only [binV] at p
        split at p
        · rename_i hb
          simp only [big, Bool.and_eq_true, decide_eq_true_eq] at hb
          exact g2_fdiv (divB hb.1 hb.2) (post_val p m (.int _))
        · exact p.elim
      | mod =>
        simp only [binV] at p
        split at p
        · rename_i hb
          exact g2_mod hb (post_val p m (.int _))
        · exact p.elim
      | pow =>
        simp only [binV] at p
        split at p
        · rename_i hb
          simp only [big, Bool.and_eq_true, decide_eq_true_eq] at hb
          obtain ⟨⟨h1, h2⟩, h3⟩ := hb
          obtain ⟨n, rfl⟩ : ∃ n : Nat, j = n := ⟨j.toNat, by omega⟩
          exact g2_pow (cpow (k := 1000) h1 (by decide) (by omega)) rfl (by rw [Int.toNat_natCast] at p; exact post_val p m (.int _))
        · exact p.elim
    | _ => cases o <;> exact p.elim
  | cell e =>
    cases ry with
    | cell e2 =>
      cases o with
      | add =>
        simp only [binV] at p
        split at p
        · rename_i xs ys hx hy
          split at p
          · rename_i hz
            refine g2_mk op_catS fun B H v w ok a b => ?_
            obtain ⟨a1, v1, r1, rfl, s1, t1, u1⟩ := sqv ok m (x := .cell _) hx (.cell e) a
            obtain ⟨a2, v2, r2, rfl, s2, t2, u2⟩ := sqv ok m (x := .cell _) hy (.cell e2) b
            exact ⟨_, _, _, _, rfl, rfl, s1, s2, by rw [t1.length, t2.length, ← u1.len, ← u2.len]; exact hz, fun l hl => post_own (P := Is (r1 ++ r2)) ok hl (RvAll.app t1 t2) rfl (post_new p m (u1.app u2) l)⟩
          · exact p.elim
        · exact p.elim
      | _ => exact p.elim
    | lst pu2 =>
      cases o with
      | add =>
        simp only [binV] at p
        split at p
        · rename_i xs hx
          split at p
          · rename_i hz
            refine g2_mk op_catS fun B H v w ok a b => ?_
            obtain ⟨a1, v1, r1, rfl, s1, t1, u1⟩ := sqv ok m (x := .cell _) hx (.cell e) a
            obtain ⟨a2, v2, r2, rfl, s2, t2, u2⟩ := sqv ok m (x := .lst _) rfl (.lst pu2) b
            exact ⟨_, _, _, _, rfl, rfl, s1, s2, by rw [t1.length, t2.length, ← u1.len, ← u2.len]; exact hz, fun l hl => post_own (P := Is (r1 ++ r2)) ok hl (RvAll.app t1 t2) rfl (post_new p m (u1.app u2) l)⟩
          · exact p.elim
        · exact p.elim
      | _ => exact p.elim
    | int k =>
      cases o with
      | mul =>
        simp only [binV] at p
        split at p
        · rename_i xs hx
          split at p
          · rename_i hz
            simp only [small, Bool.and_eq_true, decide_eq_true_eq] at hz
            refine g2_mk op_rep fun B H v w ok a b => ?_
            cases a
            obtain ⟨rs, r1, hm⟩ := m.get e hx
            obtain ⟨_, vs, rs', hH, ha, hP⟩ := ok.mem _ hm.mem
            have e2 : rs' = rs := hP
            subst e2
            exact ⟨_, k, vs, rfl, int_of b, hH, by omega, by omega, by rw [ha.length, ← r1.len]; exact hz.2, fun l hl => post_own (P := Is (List.replicate k.toNat rs').flatten) ok hl (rvAll_rep ha _) rfl (post_new p m (relL_rep r1 _) l)⟩
          · exact p.elim
        · exact p.elim
      | _ => exact p.elim
    | _ => cases o <;> exact p.elim
  | lst pu =>
    cases ry with
    | lst pu2 =>
      cases o with
      | add =>
        simp only [binV] at p
        split at p
        · rename_i hz
          refine g2_mk op_catS fun B H v w ok a b => ?_
          cases a with
          | d a => cases a with
            | lst s1 t1 => cases b with
              | d b => cases b with
                | lst s2 t2 =>
                  refine ⟨_, _, _, _, rfl, rfl, ok.ext.seq s1, ok.ext.seq s2, by rw [DpAll.len t1, DpAll.len t2, ← pu.len, ← pu2.len]; exact hz, fun l hl => post_frz ok hl ?_ (post_val p m (.lst (pu.app pu2)))⟩
                  exact .d (.lst (.of upd_same) (dpAll_mono (same_new (sub_none ok.ext hl)) _ (DpAll.app t1 t2)))
        · exact p.elim
      | _ => exact p.elim
    | _ => cases o <;> exact p.elim
  | _ => cases ry <;> exact p.elim
/-! ## what values are -/
mutual
theorem snap_pur : ∀ (n : Nat) {x : Vl} {d d' : PyData}, Pur x d → snap n h x = some d' → d' = d
  | n, _, _, _, .non, e => by cases n <;> (simp [snap] at e; exact e.symm)
  | n, _, _, _, .bl b, e => by cases n <;> (simp [snap] at e; exact e.symm)
  | n, _, _, _, .int b, e => by cases n <;> (simp [snap] at e; exact e.symm)
  | n, _, _, _, .str b, e => by cases n <;> (simp [snap] at e; exact e.symm)
  | n, _, _, _, .frz b, e => by cases n <;> (simp [snap] at e; exact e.symm)
  | 0, _, _, _, .tup a, e => by simp [snap] at e
  | 0, _, _, _, .lst a, e => by simp [snap] at e
  | n + 1, _, _, _, .tup a, e => by
    simp only [snap] at e
    obtain ⟨ds, h1, h2⟩ := Option.map_eq_some_iff.mp e
    subst h2
    rw [snapL_pur n a h1]
  | n + 1, _, _, _, .lst a, e => by
    simp only [snap] at e
    obtain ⟨ds, h1, h2⟩ := Option.map_eq_some_iff.mp e
    subst h2
    rw [snapL_pur n a h1]
theorem snapL_pur : ∀ (n : Nat) {xs : List Vl} {ds ds' : List PyData}, PurL xs ds → snapL (snap n h) xs = some ds' → ds' = ds
  | n, _, _, _, .nil, e => by simp [snapL] at e; exact e
  | n, _, _, _, .cons a b, e => by
    simp only [snapL] at e
    split at e
    · rename_i d ds h1 h2
      cases e
      rw [snap_pur n a h1, snapL_pur n b h2]
    · cases e
end
theorem snapL_ok {f : Vl → Option PyData} (hf : ∀ {x : Vl} {r : Rv} {d : PyData}, f x = some d → Rel as x r → Snap M r d) : ∀ {xs : List Vl} {rs : List Rv} {ds : List PyData}, snapL f xs = some ds → RelL as xs rs → SnapAll M rs ds
  | _, _, _, e, .nil => by simp [snapL] at e; subst e; exact .nil
  | x :: xs, _, _, e, .cons a b => by
    simp only [snapL] at e
    split at e
    · rename_i d ds h1 h2
      cases e
      exact .cons (hf h1 a) (snapL_ok hf h2 b)
    · cases e
theorem snap_ok (m : MOk as h M) : ∀ (n : Nat) {x : Vl} {r : Rv} {d : PyData}, snap n h x = some d → Rel as x r → Snap M r d := by
  intro n
  induction n with
  | zero =>
    intro x r d e q
    cases q <;> first | (simp [snap] at e; done) | (simp [snap] at e; subst e; exact .d)
  | succ n ih =>
    intro x r d e q
    cases q with
    | cell c =>
      simp only [snap] at e
      split at e
      · rename_i xs hx
        obtain ⟨ds, h1, h2⟩ := Option.map_eq_some_iff.mp e
        subst h2
        obtain ⟨rs, r1, hm⟩ := m.get c hx
        exact .c hm (snapL_ok (fun e q => ih e q) h1 r1)
      · cases e
    | tup a =>
      simp only [snap] at e
      obtain ⟨ds, h1, h2⟩ := Option.map_eq_some_iff.mp e
      subst h2
      exact .t (snapL_ok (fun e q => ih e q) h1 a)
    | lst pu => cases snap_pur _ (.lst pu) e; exact .d
    | _ => simp [snap] at e; subst e; exact .d
theorem eq_ok {x y : Vl} {b : Bool} {r q : Rv} (e : eqV x y h = some b) (hu : X.A.units + 64 < cLine) (m : MOk as h M) (rx : Rel as x r) (ry : Rel as y q) :
    (Φ (.d (.bool b)) M → G2 X (compareOp .Eq) r q M Φ) ∧ (Φ (.d (.bool (!b))) M → G2 X (compareOp .NotEq) r q M Φ) := by
  unfold eqV at e
  split at e
  · cases e
    cases rx
    cases ry
    exact ⟨fun k => g2_eqS k, fun k => g2_neS k⟩
  split at e
  · rename_i d e' h1 h2
    split at e
    · rename_i hs
      cases e
      simp only [Bool.and_eq_true] at hs
      have s1 := snap_ok m _ h1 rx
      have s2 := snap_ok m _ h2 ry
      exact ⟨fun k => g2_mk (op_eqD hu) fun B H v w ok a b => ⟨_, _, s1.dp ok a, s2.dp ok b, hs.1, hs.2, post_same ok (.d (.bl _)) k⟩,
        fun k => g2_mk (op_neD hu) fun B H v w ok a b => ⟨_, _, s1.dp ok a, s2.dp ok b, hs.1, hs.2, post_same ok (.d (.bl _)) k⟩⟩
    · cases e
  · cases e
theorem non_dec {K : Frg} {B : Hp} {v : V} {x : Vl} {r : Rv} (q : RvOk K B v r) (rx : Rel as x r) : decide (v = V.non) = (match x with | .non => true | _ => false) := by
  cases rx with
  | non => cases q with | d q => cases q; rfl
  | bl => cases q with | d q => cases q; rfl
  | int => cases q with | d q => cases q; rfl
  | str => cases q with | d q => cases q; rfl
  | frz => cases q with | d q => cases q; rfl
  | lst => cases q with | d q => cases q; rfl
  | cell => cases q; rfl
  | tup => cases q; rfl
theorem non_of {K : Frg} {B : Hp} {v : V} (q : RvOk K B v (.d .none)) : v = V.non := by cases q with | d q => cases q; rfl
theorem cmp_ok {o : Cp} {x y : Vl} {r q : Rv} (p : Post mg as (cmpV o x y h) Φ ξ) (hu : X.A.units + 64 < cLine) (m : MOk as h M) (rx : Rel as x r) (ry : Rel as y q) : G2 X (compareOp (cpv o)) r q M Φ := by
  cases o with
  | eq =>
    simp only [cmpV] at p
    split at p
    · rename_i b e; exact (eq_ok e hu m rx ry).1 (post_val p m (.bl _))
    · exact p.elim
  | ne =>
    simp only [cmpV] at p
    split at p
    · rename_i b e; exact (eq_ok e hu m rx ry).2 (post_val p m (.bl _))
    · exact p.elim
  | is =>
    cases ry with
    | non =>
      refine g2_mk op_isN fun B H v w ok a b => ⟨non_of b, ?_⟩
      rw [non_dec a rx]
      cases x <;> exact post_same ok (.d (.bl _)) (post_val p m (.bl _))
    | _ => cases rx <;> exact p.elim
  | isNot =>
    cases ry with
    | non =>
      refine g2_mk op_notN fun B H v w ok a b => ⟨non_of b, ?_⟩
      rw [non_dec a rx]
      cases x <;> exact post_same ok (.d (.bl _)) (post_val p m (.bl _))
    | _ => cases rx <;> exact p.elim
  | lt =>
    cases rx with
    | int i => cases ry with
      | int j => exact g2_lt (post_val p m (.bl _))
      | _ => exact p.elim
    | _ => exact p.elim
  | le =>
    cases rx with
    | int i => cases ry with
      | int j => exact g2_le (post_val p m (.bl _))
      | _ => exact p.elim
    | _ => exact p.elim
  | gt =>
    cases rx with
    | int i => cases ry with
      | int j => exact g2_gt (post_val p m (.bl _))
      | _ => exact p.elim
    | _ => exact p.elim
  | ge =>
    cases rx with
    | int i => cases ry with
      | int j => exact g2_ge (post_val p m (.bl _))
      | _ => exact p.elim
    | _ => exact p.elim
theorem at_rel {xs : List Vl} {rs : List Rv} {i : Int} {v : Vl} (a : RelL as xs rs) (e : atI xs i = some v) : ∃ q, atI rs i = some q ∧ Rel as v q := by
  unfold atI at e ⊢
  obtain ⟨j, h1, h2⟩ := Option.bind_eq_some_iff.mp e
  obtain ⟨q, h3, h4⟩ := a.get j h2
  exact ⟨q, by rw [← a.len, h1]; exact h3, h4⟩
theorem ix_up {ds : List PyData} {rs : List Rv} {i : Int} {r : Rv} (u : UpL ds rs) (h : atI rs i = some r) (k : Φ r M) : GIx X (.d (.list ds)) (.d (.int i)) M Φ := fun B H v w ok q1 q2 => by
  cases q1 with
  | d q1 => cases q1 with
    | lst hs ha =>
      have hx := u _ _ _ ha
      unfold atI at h
      obtain ⟨j, h1, h2⟩ := Option.bind_eq_some_iff.mp h
      obtain ⟨x, h3, h4⟩ := RvAll.get j r hx h2
      refine .inl ⟨_, _, i, x, rfl, int_of q2, ok.ext.seq hs, ?_, post_same ok h4 k⟩
      unfold atI
      rw [hx.length, h1]
      exact h3
theorem ix_ok {x y : Vl} {r q : Rv} (p : Post mg as (ixV x y h) Φ ξ) (m : MOk as h M) (rx : Rel as x r) (ry : Rel as y q) : GIx X r q M Φ := by
  cases ry with
  | int i =>
    cases rx with
    | cell c =>
      simp only [ixV] at p
      split at p
      · rename_i xs hx
        split at p
        · rename_i v hv
          obtain ⟨rs, r1, hm⟩ := m.get c hx
          obtain ⟨z, h1, h2⟩ := at_rel r1 hv
          exact ix_c hm h1 (post_val p m h2)
        · exact p.elim
      · exact p.elim
    | tup a =>
      simp only [ixV] at p
      split at p
      · rename_i v hv
        obtain ⟨z, h1, h2⟩ := at_rel a hv
        exact ix_u h1 (post_val p m h2)
      · exact p.elim
    | frz ns =>
      simp only [ixV] at p
      split at p
      · rename_i v hv
        refine ix_l (ds := ns.map .int) (d := .int v) ?_ (post_val p m (.int _))
        unfold atI at hv ⊢
        obtain ⟨j, h1, h2⟩ := Option.bind_eq_some_iff.mp hv
        rw [List.length_map, h1]
        simp [h2]
      · exact p.elim
    | lst pu =>
      simp only [ixV] at p
      split at p
      · rename_i v hv
        obtain ⟨rs, h1, h2⟩ := pu.up as
        obtain ⟨z, h3, h4⟩ := at_rel h1 hv
        exact ix_up h2 h3 (post_val p m h4)
      · exact p.elim
    | str z =>
      simp only [ixV] at p
      split at p
      · rename_i hz
        split at p
        · rename_i c hc
          exact ix_s hz hc (post_val p m (.str _))
        · exact p.elim
      · exact p.elim
    | _ => exact p.elim
  | _ => exact p.elim
end
end IR

set_option Elab.async false
set_option linter.all false
set_option maxRecDepth 100000
set_option maxHeartbeats 2000000
namespace IR
open PySem PySem.Spec PyProof.Rows L2 Dl
section
variable {X : Cx} {mg : Mg} {as : List Addr} {h : Mm} {M : Mem} {Φ : Pst} {ξ : EV → Mem → Prop}
def Bi.val : Bi → Value
  | .len => .builtin "len" | .abs => .builtin "abs" | .max => .builtin "max" | .min => .builtin "min" | .toInt => .type "int" | .list => .type "list" | .tuple => .type "tuple" | .sum => .builtin "sum" | .all => .builtin "all" | .repr => .builtin "repr"
theorem RvAll.one {K : Frg} {B : Hp} {vs : List V} {r : Rv} (a : RvAll K B vs [r]) : ∃ v, vs = [v] ∧ RvOk K B v r := by
  cases a with | cons q t => cases t; exact ⟨_, rfl, q⟩
theorem RvAll.two {K : Frg} {B : Hp} {vs : List V} {r r' : Rv} (a : RvAll K B vs [r, r']) : ∃ v v', vs = [v, v'] ∧ RvOk K B v r ∧ RvOk K B v' r' := by
  cases a with | cons q t => cases t with | cons q2 t => cases t; exact ⟨_, _, rfl, q, q2⟩
theorem ints_rel : ∀ {xs : List Vl} {is : List Int} {rs : List Rv}, asInts xs = some is → RelL as xs rs → rs = is.map fun i => .d (.int i)
  | [], _, _, e, .nil => by simp [asInts] at e; subst e; rfl
  | x :: xs, is, _, e, .cons a b => by
    cases a with
    | int i =>
      simp only [asInts] at e
      obtain ⟨is', h1, h2⟩ := Option.map_eq_some_iff.mp e
      subst h2
      rw [ints_rel h1 b]; rfl
    | _ => simp [asInts] at e
theorem bools_rel : ∀ {xs : List Vl} {is : List Bool} {rs : List Rv}, asBools xs = some is → RelL as xs rs → rs = is.map fun i => .d (.bool i)
  | [], _, _, e, .nil => by simp [asBools] at e; subst e; rfl
  | x :: xs, is, _, e, .cons a b => by
    cases a with
    | bl i =>
      simp only [asBools] at e
      obtain ⟨is', h1, h2⟩ := Option.map_eq_some_iff.mp e
      subst h2
      rw [bools_rel h1 b]; rfl
    | _ => simp [asBools] at e
theorem rvAll_int {K : Frg} {B : Hp} : ∀ {vs : List V} {is : List Int}, RvAll K B vs (is.map fun i => .d (.int i)) → vs = is.map V.int
  | _, [], a => by cases a; rfl
  | _, i :: is, a => by cases a with | cons q t => rw [int_of q, rvAll_int t]; rfl
theorem rvAll_bl {K : Frg} {B : Hp} : ∀ {vs : List V} {is : List Bool}, RvAll K B vs (is.map fun i => .d (.bool i)) → vs = is.map V.bl
  | _, [], a => by cases a; rfl
  | _, i :: is, a => by cases a with | cons q t => rw [bool_of q, rvAll_bl t]; rfl
theorem len_ok {x : Vl} {r : Rv} {n : Nat} (m : MOk as h M) (rx : Rel as x r) (hx : (∃ ys, x = .tup ys ∧ n = ys.length) ∨ ∃ ys, seqOf h x = some ys ∧ n = ys.length) (k : Φ (.d (.int n)) M) : GC X (.builtin "len") [r] M Φ :=
  gc_mk call_len_seq fun B H vs ok a => by
    obtain ⟨v, rfl, q⟩ := RvAll.one a
    rcases hx with ⟨ys, rfl, rfl⟩ | ⟨ys, hs, rfl⟩
    · obtain ⟨p, ws, rs, rfl, h1, h2, h3⟩ := tupv ok rx q
      exact ⟨p, ws, rfl, .inr h1, by rw [h2.length, ← h3.len]; exact post_same ok (.d (.int _)) k⟩
    · obtain ⟨p, ws, rs, rfl, h1, h2, h3⟩ := sqv ok m hs rx q
      exact ⟨p, ws, rfl, .inl h1, by rw [h2.length, ← h3.len]; exact post_same ok (.d (.int _)) k⟩
theorem list_ok {x : Vl} {r : Rv} {ys : List Vl} (m : MOk as h M) (rx : Rel as x r) (hx : x = .tup ys ∨ seqOf h x = some ys) (p : Post mg as (.ok (.cell h.length) (h ++ [ys])) Φ ξ) : GC X (.type "list") [r] M Φ :=
  gc_mk call_list_of fun B H vs ok a => by
    obtain ⟨v, rfl, q⟩ := RvAll.one a
    rcases hx with rfl | hs
    · obtain ⟨b, ws, rs, rfl, h1, h2, h3⟩ := tupv ok rx q
      exact ⟨b, ws, rfl, .inr h1, fun l hl => post_own (P := Is rs) ok hl h2 rfl (post_new p m h3 l)⟩
    · obtain ⟨b, ws, rs, rfl, h1, h2, h3⟩ := sqv ok m hs rx q
      exact ⟨b, ws, rfl, .inl h1, fun l hl => post_own (P := Is rs) ok hl h2 rfl (post_new p m h3 l)⟩
theorem tuple_ok {x : Vl} {r : Rv} {ys : List Vl} (m : MOk as h M) (rx : Rel as x r) (hx : x = .tup ys ∨ seqOf h x = some ys) (p : Post mg as (.ok (.tup ys) h) Φ ξ) : GC X (.type "tuple") [r] M Φ :=
  gc_mk call_tuple_of fun B H vs ok a => by
    obtain ⟨v, rfl, q⟩ := RvAll.one a
    rcases hx with rfl | hs
    · obtain ⟨b, ws, rs, rfl, h1, h2, h3⟩ := tupv ok rx q
      cases rx with
      | tup hr => exact ⟨b, ws, rfl, .inr ⟨h1, post_same ok q (post_val p m (.tup hr))⟩⟩
    · obtain ⟨b, ws, rs, rfl, h1, h2, h3⟩ := sqv ok m hs rx q
      exact ⟨b, ws, rfl, .inl ⟨h1, fun l hl => post_frz ok hl (.tup (.of upd_same) (rvAll_mono (same_new (sub_none ok.ext hl)) h2)) (post_val p m (.tup h3))⟩⟩
theorem repr_ok {x : Vl} {r : Rv} {d : PyData} (hg : X.A.guards = some []) (hu : X.A.units + 64 < cLine) (m : MOk as h M) (rx : Rel as x r) (hx : (∃ c, x = .cell c) ∨ (∃ ys, x = .tup ys) ∨ ∃ ys, x = .lst ys) (e : snap 8 h x = some d) (o : reprOk d = true) (k : Φ (.d (.str d.shown)) M) : GC X (.builtin "repr") [r] M Φ := by
  simp only [reprOk, Bool.and_eq_true, decide_eq_true_eq] at o
  obtain ⟨⟨⟨⟨o1, o2⟩, o3⟩, o4⟩, o5⟩ := o
  have sh : Sh d.bulk d.depth d := ⟨o1, o2, Nat.le_refl _, o4, Nat.le_refl _⟩
  have s := snap_ok m _ e rx
  refine gc_mk (call_repr hg o1 (by omega) (sh.line o5)) fun B H vs ok a => ?_
  obtain ⟨v, rfl, q⟩ := RvAll.one a
  have dp := s.dp ok q
  rcases hx with ⟨c, rfl⟩ | ⟨ys, rfl⟩ | ⟨ys, rfl⟩
  · cases rx with | cell _ => cases q; exact ⟨_, rfl, dp, post_same ok (.d (.str _)) k⟩
  · cases rx with | tup _ => cases q; exact ⟨_, rfl, dp, post_same ok (.d (.str _)) k⟩
  · cases rx with | lst _ => cases q with | d q => cases q; exact ⟨_, rfl, dp, post_same ok (.d (.str _)) k⟩
theorem maxOf_ok : ∀ {xs : List Int}, xs ≠ [] → maxOf xs ∈ xs ∧ ∀ y ∈ xs, y ≤ maxOf xs
  | [], h => absurd rfl h
  | a :: as, _ => by
    have key : ∀ (as : List Int) (a : Int), (as.foldl Max.max a = a ∨ as.foldl Max.max a ∈ as) ∧ a ≤ as.foldl Max.max a ∧ ∀ y ∈ as, y ≤ as.foldl Max.max a := by
      intro as
      induction as with
      | nil => intro a; simp
      | cons b as ih =>
        intro a
        rw [List.foldl_cons]
        obtain ⟨h1, h2, h3⟩ := ih (Max.max a b)
        refine ⟨?_, by omega, fun y hy => ?_⟩
        · rcases h1 with h1 | h1
          · rw [h1]
            by_cases c : a ≤ b
            · right; rw [show Max.max a b = b by omega]; simp
            · left; omega
          · right; exact List.mem_cons_of_mem _ h1
        · rcases List.mem_cons.mp hy with rfl | hy
          · omega
          · exact h3 y hy
    obtain ⟨h1, h2, h3⟩ := key as a
    refine ⟨?_, fun y hy => ?_⟩
    · show as.foldl Max.max a ∈ a :: as
      rcases h1 with h1 | h1
      · rw [h1]; simp
      · exact List.mem_cons_of_mem _ h1
    · show y ≤ as.foldl Max.max a
      rcases List.mem_cons.mp hy with rfl | hy
      · exact h2
      · exact h3 y hy
theorem minOf_ok : ∀ {xs : List Int}, xs ≠ [] → minOf xs ∈ xs ∧ ∀ y ∈ xs, minOf xs ≤ y
  | [], h => absurd rfl h
  | a :: as, _ => by
    have key : ∀ (as : List Int) (a : Int), (as.foldl Min.min a = a ∨ as.foldl Min.min a ∈ as) ∧ as.foldl Min.min a ≤ a ∧ ∀ y ∈ as, as.foldl Min.min a ≤ y := by
      intro as
      induction as with
      | nil => intro a; simp
      | cons b as ih =>
        intro a
        rw [List.foldl_cons]
        obtain ⟨h1, h2, h3⟩ := ih (Min.min a b)
        refine ⟨?_, by omega, fun y hy => ?_⟩
        · rcases h1 with h1 | h1
          · rw [h1]
            by_cases c : b ≤ a
            · right; rw [show Min.min a b = b by omega]; simp
            · left; omega
          · right; exact List.mem_cons_of_mem _ h1
        · rcases List.mem_cons.mp hy with rfl | hy
          · omega
          · exact h3 y hy
    obtain ⟨h1, h2, h3⟩ := key as a
    refine ⟨?_, fun y hy => ?_⟩
    · show as.foldl Min.min a ∈ a :: as
      rcases h1 with h1 | h1
      · rw [h1]; simp
      · exact List.mem_cons_of_mem _ h1
    · show as.foldl Min.min a ≤ y
      rcases List.mem_cons.mp hy with rfl | hy
      · exact h2
      · exact h3 y hy
theorem bi_ok {b : Bi} {xs : List Vl} {rs : List Rv} (p : Post mg as (biV b xs h) Φ ξ) (hc : X.calm = true) (hg : X.A.guards = some []) (hu : X.A.units + 64 < cLine) (m : MOk as h M) (rx : RelL as xs rs) : GC X b.val rs M Φ := by
  unfold biV at p
  split at p
  · cases rx with | cons a t => cases t; exact len_ok m a (.inl ⟨_, rfl, rfl⟩) (post_val p m (.int _))
  · split at p
    · rename_i hs
      cases rx with | cons a t => cases t; exact len_ok m a (.inr ⟨_, hs, rfl⟩) (post_val p m (.int _))
    · exact p.elim
  · cases rx with | cons a t => cases t; cases a; exact gc_abs (post_val p m (.int _))
  · cases rx with | cons a t => cases t with | cons a2 t => cases t; cases a; cases a2; exact gc_max hc (post_val p m (.int _))
  · cases rx with | cons a t => cases t with | cons a2 t => cases t; cases a; cases a2; exact gc_min hc (post_val p m (.int _))
  · split at p
    · rename_i hs
      split at p
      · rename_i is his
        split at p
        · exact p.elim
        · rename_i hne
          cases rx with
          | cons a t =>
            cases t
            refine gc_mk (cr_max hc) fun B H vs ok q0 => ?_
            obtain ⟨v, rfl, q⟩ := RvAll.one q0
            obtain ⟨b, ws, rs, rfl, h1, h2, h3⟩ := sqv ok m hs a q
            have e := ints_rel his h3
            subst e
            have e := rvAll_int h2
            subst e
            refine ⟨b, _, rfl, h1, by cases ‹List Int› <;> simp_all, fun z hz hy => ?_⟩
            have := (maxOf_ok (by simpa using hne)).2 z hz
            have := hy _ (maxOf_ok (by simpa using hne)).1
            rw [show z = maxOf is by omega]
            exact post_same ok (.d (.int _)) (post_val p m (.int _))
      · exact p.elim
    · exact p.elim
  · split at p
    · rename_i hs
      split at p
      · rename_i is his
        split at p
        · exact p.elim
        · rename_i hne
          cases rx with
          | cons a t =>
            cases t
            refine gc_mk (cr_min hc) fun B H vs ok q0 => ?_
            obtain ⟨v, rfl, q⟩ := RvAll.one q0
            obtain ⟨b, ws, rs, rfl, h1, h2, h3⟩ := sqv ok m hs a q
            have e := ints_rel his h3
            subst e
            have e := rvAll_int h2
            subst e
            refine ⟨b, _, rfl, h1, by cases ‹List Int› <;> simp_all, fun z hz hy => ?_⟩
            have := (minOf_ok (by simpa using hne)).2 z hz
            have := hy _ (minOf_ok (by simpa using hne)).1
            rw [show z = minOf is by omega]
            exact post_same ok (.d (.int _)) (post_val p m (.int _))
      · exact p.elim
    · exact p.elim
  · cases rx with | cons a t => cases t; cases a; exact gc_int (post_val p m (.int _))
  · cases rx with | cons a t => cases t; cases a; exact gc_intB (post_val p m (.int _))
  · cases rx with | cons a t => cases t; exact list_ok m a (.inl rfl) p
  · split at p
    · rename_i hs
      cases rx with | cons a t => cases t; exact list_ok m a (.inr hs) p
    · exact p.elim
  · cases rx with | cons a t => cases t; exact tuple_ok m a (.inl rfl) p
  · split at p
    · rename_i hs
      cases rx with | cons a t => cases t; exact tuple_ok m a (.inr hs) p
    · exact p.elim
  · split at p
    · rename_i hs
      split at p
      · rename_i his
        cases rx with
        | cons a t =>
          cases t
          refine gc_mk (cr_sum hc) fun B H vs ok q0 => ?_
          obtain ⟨v, rfl, q⟩ := RvAll.one q0
          obtain ⟨b, ws, rs, rfl, h1, h2, h3⟩ := sqv ok m hs a q
          have e := ints_rel his h3
          subst e
          have e := rvAll_int h2
          subst e
          exact ⟨b, _, rfl, h1, post_same ok (.d (.int _)) (post_val p m (.int _))⟩
      · exact p.elim
    · exact p.elim
  · split at p
    · rename_i hs
      split at p
      · rename_i his
        cases rx with
        | cons a t =>
          cases t
          refine gc_mk (cr_all hc) fun B H vs ok q0 => ?_
          obtain ⟨v, rfl, q⟩ := RvAll.one q0
          obtain ⟨b, ws, rs, rfl, h1, h2, h3⟩ := sqv ok m hs a q
          have e := bools_rel his h3
          subst e
          have e := rvAll_bl h2
          subst e
          exact ⟨b, _, rfl, h1, post_same ok (.d (.bl _)) (post_val p m (.bl _))⟩
      · exact p.elim
    · exact p.elim
  · split at p
    · rename_i hd
      split at p
      · rename_i ho
        cases rx with | cons a t => cases t; exact repr_ok hg hu m a (.inl ⟨_, rfl⟩) hd ho (post_val p m (.str _))
      · exact p.elim
    · exact p.elim
  · split at p
    · rename_i hd
      split at p
      · rename_i ho
        cases rx with | cons a t => cases t; exact repr_ok hg hu m a (.inr (.inl ⟨_, rfl⟩)) hd ho (post_val p m (.str _))
      · exact p.elim
    · exact p.elim
  · split at p
    · rename_i hd
      split at p
      · rename_i ho
        cases rx with | cons a t => cases t; exact repr_ok hg hu m a (.inr (.inr ⟨_, rfl⟩)) hd ho (post_val p m (.str _))
      · exact p.elim
    · exact p.elim
  · split at p
    · rename_i hb
      simp only [big, decide_eq_true_eq] at hb
      cases rx with
      | cons a t =>
        cases t
        cases a
        refine gc_mk SkE.call_repr_int fun B H vs ok q0 => ?_
        obtain ⟨v, rfl, q⟩ := RvAll.one q0
        exact ⟨_, by rw [int_of q], by have := PySem.Flt.log2_lt_of (by decide : 0 < 1000) hb; omega, post_same ok (.d (.str _)) (post_val p m (.str _))⟩
    · exact p.elim
  · exact p.elim
/-! isinstance -/
def Ty.st : Ty → String
  | .int => "int" | .bool => "bool" | .str => "str" | .list => "list" | .tuple => "tuple"
def tyS : Vl → String
  | .non => "NoneType" | .bl _ => "bool" | .int _ => "int" | .str _ => "str" | .tup _ => "tuple" | .cell _ => "list" | .frz _ => "list" | .lst _ => "list"
theorem isi_kit (x : Vl) (t : Ty) : kitB (tyS x) t.st = some (isiV x t) := by
  cases x <;> cases t <;> (simp only [tyS, Ty.st, isiV]; decide +kernel)
theorem tyX_of {B H : Hp} {K : Frg} {v : V} {x : Vl} {r : Rv} (ok : Ok K B H M) (m : MOk as h M) (hl : match x with | .cell n => n < h.length | _ => True) (rx : Rel as x r) (q : RvOk K B v r) : TyX K H v (.type (tyS x)) := by
  cases rx with
  | non => cases q with | d q => exact ty_of (dp_mono ok.ext _ q)
  | bl => cases q with | d q => exact ty_of (dp_mono ok.ext _ q)
  | int => cases q with | d q => exact ty_of (dp_mono ok.ext _ q)
  | str => cases q with | d q => exact ty_of (dp_mono ok.ext _ q)
  | frz => cases q with | d q => exact ty_of (dp_mono ok.ext _ q)
  | lst => cases q with | d q => exact ty_of (dp_mono ok.ext _ q)
  | cell c =>
    cases q
    obtain ⟨rs, r1, hm⟩ := m.get c (List.getElem?_eq_getElem hl)
    obtain ⟨_, vs, rs', hH, ha, hP⟩ := ok.mem _ hm.mem
    exact .base (.lst hH)
  | tup a =>
    cases q with
    | tup h1 h2 =>
      rcases sq_mono ok.ext h1 with (h | ⟨_, h⟩) | ⟨_, _, _, h, c, _⟩
      · exact .base (.tup h)
      · exact .fTuple h
      · exact .kTuple h c
theorem cell_lt {c : Nat} {r : Rv} (m : MOk as h M) (rx : Rel as (.cell c) r) : c < h.length := by
  cases rx with | cell e => rw [← m.len]; exact (List.getElem?_eq_some_iff.mp e).1
theorem isi_ok {x : Vl} {r : Rv} {t : Ty} (m : MOk as h M) (rx : Rel as x r) (k : Φ (.d (.bool (isiV x t))) M) : GC X (.builtin "isinstance") [r, .raw (.ty t.st)] M Φ :=
  gc_mk call_isi fun B H vs ok a => by
    obtain ⟨v, w, rfl, q1, q2⟩ := RvAll.two a
    cases q2
    have ty : TyX X.K H v (.type (tyS x)) := tyX_of ok m (by cases x <;> first | exact cell_lt m rx | trivial) rx q1
    exact ⟨_, _, _, _, _, rfl, .ty t.st, ty, kit_ty (isi_kit x t), post_same ok (.d (.bl _)) k⟩
end
end IR

set_option Elab.async false
set_option linter.all false
set_option maxRecDepth 100000
set_option maxHeartbeats 4000000
namespace IR
open PySem PySem.Spec PyProof.Rows L2 Dl
section
variable {X : Cx} {ρ : List Rv} {M : Mem} {Φ : Pst} {Ξ : Xi} {D : DE}
/-! ## walks over lists that may change, and don't -/
def GWk (K : Frg) (B1 : Hp) (S : Mem → Prop) : Hp → Prop := fun H => ∃ B M, Ok K B H M ∧ Same B1 B ∧ S M
def YWk (K : Frg) (B1 : Hp) (S : Mem → Prop) (items : List Rv) : Nat → Hp → V → Hp → Prop := fun i H x H' => ∀ r, items[i]? = some r → ∀ B M, Ok K B H M → Same B1 B → S M → ∃ B', Ok K B' H' M ∧ Fr B H M B' H' M ∧ RvOk K B' x r
def SourceW (X : Cx) (B H : Hp) (M : Mem) (Θ : List Rv → (Mem → Prop) → Mem → Prop) (J : It) (H1 : Hp) : Prop :=
  ∃ B1 M1 items S, Ok X.K B1 H1 M1 ∧ Fr B H M B1 H1 M1 ∧ Θ items S M1 ∧ Walk J items.length (GWk X.K B1 S) (YWk X.K B1 S items)
def GIW (X : Cx) (tg iter : Expr) (ρ : List Rv) (M : Mem) (Θ : List Rv → (Mem → Prop) → Mem → Prop) (Ξ : Xi) : Prop :=
  ∀ B H σ, Ok X.K B H M → EnvOk X.K B σ ρ → Takes X (PostX X.K B H M Ξ) → iS X tg iter σ H (SourceW X B H M Θ)
def ForW (X : Cx) (tg : Expr) (body : List Stmt) (D : DE) (S : Mem → Prop) : List Rv → List Rv → Mem → Prop
  | [], ρ, M => S M ∧ D.nx ρ M
  | r :: rs, ρ, M => S M ∧ GG X tg r ρ M (fun ρ2 M2 => GSs X body ρ2 M2 { D with nx := ForW X tg body D S rs, ct := ForW X tg body D S rs, bk := D.nx }) []
theorem forW_S {tg : Expr} {body : List Stmt} {S : Mem → Prop} : ∀ {items : List Rv}, ForW X tg body D S items ρ M → S M
  | [], h => h.1
  | _ :: _, h => h.1
theorem forW_at {tg : Expr} {body : List Stmt} {S : Mem → Prop} : ∀ (items : List Rv) (i : Nat) (r : Rv), items[i]? = some r → ∀ ρ' M', ForW X tg body D S (items.drop i) ρ' M' →
    GG X tg r ρ' M' (fun ρ2 M2 => GSs X body ρ2 M2 { D with nx := ForW X tg body D S (items.drop (i + 1)), ct := ForW X tg body D S (items.drop (i + 1)), bk := D.nx }) [] := by
  intro items i r h ρ' M' q
  have hl := (List.getElem?_eq_some_iff.mp h).1
  rw [List.drop_eq_getElem_cons hl] at q
  have e : items[i] = r := (List.getElem?_eq_some_iff.mp h).2
  rw [e] at q
  exact q.2
theorem gs_forW {tg iter : Expr} {body : List Stmt} {pos : Pos} (hp : PassesOwn (model X.prog X.w) X.A X.env X.xe) (hc : X.calm = true) (hf : ∀ x, foldedSetIterable iter X.env x = pure x)
    (h : GIW X tg iter ρ M (fun items S M1 => ForW X tg body D S items ρ M1) D.xx) : GS X (.For tg iter body [] pos) ρ M D := fun B H σ ok env tk => by
  refine sS_of (ps_for hp hc pi_S pg_S pss_S hf) ?_
  refine iS_mono (h B H σ ok env tk) fun J H1 ⟨B1, M1, items, S, o1, f1, hF, w⟩ => ?_
  refine for_it w (fun i σ' H' => PostN X.K B1 H1 M1 (ForW X tg body D S (items.drop i)) σ' H') ⟨B1, M1, ρ, o1, .refl, env_mono f1.ex env, hF⟩ (fun i σ' H' _ ⟨B2, M2, ρ2, o2, f2, _, k⟩ => ⟨B2, M2, o2, f2.ex, forW_S k⟩)
    (fun i x σ' H2 H3 hi ⟨B2, M2, ρ2, o2, f2, e2, k⟩ y => ?_) (fun σ' H' q => ?_)
  · obtain ⟨r, hr⟩ : ∃ r, items[i]? = some r := ⟨items[i], by simp [hi]⟩
    obtain ⟨B3, o3, f3, q3⟩ := y r hr B2 M2 o2 f2.ex (forW_S k)
    refine gS_mono (forW_at items i r hr ρ2 M2 k B3 H3 σ' x o3 (env_mono f3.ex e2) q3) fun σ4 H4 ⟨_, B4, M4, ρ4, o4, f4, e4, k4⟩ => ?_
    have f14 : Fr B1 H1 M1 B4 H4 M4 := (f2.trans f3).trans f4
    refine ssS_mono (k4 B4 H4 σ4 o4 e4 (tk_after tk (f1.trans f14))) ⟨fun _ _ => postN_after f14, fun _ _ => postE_after (f1.trans f14), fun _ _ => postN_after (f1.trans f14), fun _ _ => postN_after f14⟩
  · rw [List.drop_length] at q
    obtain ⟨B2, M2, ρ2, o2, f2, e2, k⟩ := q
    exact ⟨B2, M2, ρ2, o2, f1.trans f2, e2, k.2⟩
def CompW (X : Cx) (tg elt : Expr) (ifs : List Expr) (scope : Scope) (vs : List Nat) (ρ : List Rv) (F : List Rv → Mem → Prop) (S : Mem → Prop) : List Rv → List Rv → Mem → Prop
  | [], acc, M => S M ∧ F acc M
  | r :: rs, acc, M => S M ∧ acc.length < sizeLine ∧ AllB X scope fun X1 => GG X1 tg r (wipeR ρ vs) M (fun ρ2 M2 => AllB X scope fun X2 => GTs X2 ifs ρ2 M2 (fun b M3 =>
        (b = true → AllB X scope fun X3 => GE X3 elt ρ2 M3 (fun y M4 => CompW X tg elt ifs scope vs ρ F S rs (acc ++ [y]) M4) X0) ∧ (b = false → CompW X tg elt ifs scope vs ρ F S rs acc M3)) X0) vs
theorem compW_S {tg elt : Expr} {ifs : List Expr} {scope : Scope} {vs : List Nat} {F : List Rv → Mem → Prop} {S : Mem → Prop} : ∀ {items acc : List Rv}, CompW X tg elt ifs scope vs ρ F S items acc M → S M
  | [], _, h => h.1
  | _ :: _, _, h => h.1
section
variable {tg elt iter : Expr} {ifs : List Expr} {scope : Scope} {own : List (Str × Nat)} {pos : Pos}
theorem comp_turnsW (own : List (Str × Nat)) (hown : own ≠ []) {F : List Rv → Mem → Prop} {Q : VK} {σ : Slots} {B1 H1 : Hp} {M1 : Mem} {J : It} {items : List Rv} {L : Addr} {S : Mem → Prop} (w : Walk J items.length (GWk X.K B1 S) (YWk X.K B1 S items))
    (o1 : Ok X.K B1 H1 M1) (env : EnvOk X.K B1 σ ρ) (hL : H1 L = none) (h0 : CompW X tg elt ifs scope (own.map (·.2)) ρ F S items [] M1)
    (hd : ∀ H' B' M' acc xs, Ok X.K B' H' M' → Fr B1 H1 M1 B' H' M' → At B' H' M' L xs → RvAll X.K B' xs acc → F acc M' → Q (.ref L) H') :
    ∃ W : Nat → Nat → Hp → Prop, (∃ m, W 0 m (upd H1 L (.lst []))) ∧ ∀ i m H, W i m H → (J.stop i H ∧ Q (.ref L) H) ∨ (J.go i H ∧ ∃ Nx : Hp → Prop, (∀ H', Nx H' → ∃ m', m' < m ∧ W (i + 1) m' H') ∧
      ∀ x H', J.yld i H x H' → gB X scope tg x (wipe σ (own.map (·.2))) H' fun σ2 H2 => wipe σ2 (own.map (·.2)) = wipe σ (own.map (·.2)) ∧ tB X scope ifs σ2 H2 fun b H3 =>
        if b = true then eB X scope elt σ2 H3 fun y H4 => ∃ acc, H4 L = some (.lst acc) ∧ acc.length < sizeLine ∧ Nx (upd H4 L (.lst (acc ++ [y]))) else Nx H3) := by
  have bL := sub_none o1.ext hL
  have mL : ∀ p ∈ M1, p.1 ≠ L := fun p hp e => by
    obtain ⟨_, _, _, h, _⟩ := o1.mem p hp
    rw [e, hL] at h; cases h
  refine lc_it w (Qd := fun H' => Q (.ref L) H') (fun i H' => ∃ B' M' acc xs, Ok X.K B' H' M' ∧ Fr B1 H1 M1 B' H' M' ∧ At B' H' M' L xs ∧ RvAll X.K B' xs acc ∧ CompW X tg elt ifs scope (own.map (·.2)) ρ F S (items.drop i) acc M') ?_
    (fun i H' _ ⟨B', M', acc, xs, o, f, a, r, c⟩ => ⟨B', M', o, f.ex, compW_S c⟩) (fun i x H2 H3 hi ⟨B2, M2, acc, xs, o2, f2, a2, r2, c2⟩ y => ?_) (fun H' ⟨B', M', acc, xs, o, f, a, r, c⟩ => ?_)
  · refine ⟨B1, M1, [], [], ⟨fun x u e => by rw [upd_ne (ne_of_none e bL)]; exact o1.ext x u e, fun q hq => ?_, o1.nd⟩, fr_set .refl hL, ⟨upd_same, bL, mL⟩, .nil, h0⟩
    obtain ⟨h1, vs, rs, h2, h3, h4⟩ := o1.mem q hq
    exact ⟨h1, vs, rs, by rw [upd_ne (mL q hq)]; exact h2, h3, h4⟩
  · obtain ⟨r, hr⟩ : ∃ r, items[i]? = some r := ⟨items[i], by simp [hi]⟩
    obtain ⟨B3, o3, f3, q3⟩ := y r hr B2 M2 o2 f2.ex (compW_S c2)
    rw [List.drop_eq_getElem_cons hi, (List.getElem?_eq_some_iff.mp hr).2] at c2
    obtain ⟨_, hz, c2⟩ := c2
    have a3 := a2.step f3
    have f13 := f2.trans f3
    intro s H C cl fp
    refine gS_mono (c2 s H C cl fp B3 H3 (wipe σ (own.map (·.2))) x o3 (env_wipe (env_mono f13.ex env) _) q3) fun σ4 H4 ⟨hw, B4, M4, ρ4, o4, f4, e4, c4⟩ => ?_
    have ww : ∀ (vs : List Nat) (τ : Slots), wipe (wipe τ vs) vs = wipe τ vs := by
      intro vs τ
      have ix : ∀ (vs : List Nat) (τ : Slots) (j : Nat), (wipe τ vs)[j]? = if j ∈ vs ∧ j < τ.length then some none else τ[j]? := by
        intro vs
        induction vs with
        | nil => intro τ j; simp [wipe]
        | cons a vs ih =>
          intro τ j
          show ((wipe τ vs).set a none)[j]? = _
          rw [List.getElem?_set, ih, wipe_length]
          by_cases e : a = j
          · subst e
            by_cases hl : a < τ.length
            · simp [hl]
            · simp [hl, List.getElem?_eq_none (Nat.le_of_not_lt hl)]
          · have e' : ¬ j = a := fun z => e z.symm
            simp [e, e']
      refine List.ext_getElem? fun j => ?_
      rw [ix vs (wipe τ vs) j, ix vs τ j, wipe_length]
      split <;> rfl
    refine ⟨?_, ?_⟩
    · cases own with
      | nil => exact absurd rfl hown
      | cons p own => rw [hw (by simp), ww]
    · intro s H C cl fp
      have a4 := a3.step f4
      have f14 := f13.trans f4
      have k := c4 s H C cl fp
      have fin : ∀ b H5, PostT X.K B4 H4 M4 (fun b M3 => (b = true → AllB X scope fun X3 => GE X3 elt ρ4 M3 (fun y M4 => CompW X tg elt ifs scope (own.map (·.2)) ρ F S (items.drop (i + 1)) (acc ++ [y]) M4) X0) ∧ (b = false → CompW X tg elt ifs scope (own.map (·.2)) ρ F S (items.drop (i + 1)) acc M3)) b H5 →
          (if b = true then eB X scope elt σ4 H5 fun y H4 => ∃ acc, H4 L = some (.lst acc) ∧ acc.length < sizeLine ∧ (∃ B' M' acc_1 xs, Ok X.K B' (upd H4 L (.lst (acc ++ [y]))) M' ∧ Fr B1 H1 M1 B' (upd H4 L (.lst (acc ++ [y]))) M' ∧ At B' (upd H4 L (.lst (acc ++ [y]))) M' L xs ∧ RvAll X.K B' xs acc_1 ∧ CompW X tg elt ifs scope (own.map (·.2)) ρ F S (items.drop (i + 1)) acc_1 M')
            else ∃ B' M' acc xs, Ok X.K B' H5 M' ∧ Fr B1 H1 M1 B' H5 M' ∧ At B' H5 M' L xs ∧ RvAll X.K B' xs acc ∧ CompW X tg elt ifs scope (own.map (·.2)) ρ F S (items.drop (i + 1)) acc M') := fun b H5 ⟨B5, M5, o5, f5, k5⟩ => by
        have a5 := a4.step f5
        have f15 := f14.trans f5
        have r5 := rvAll_mono (f3.ex.trans (f4.ex.trans f5.ex)) r2
        cases b with
        | true =>
          rw [if_pos rfl]
          intro s H C cl fp
          refine eS_mono (k5.1 rfl s H C cl fp B5 H5 σ4 o5 (env_mono f5.ex e4) tk0) fun v H6 ⟨B6, M6, r6, o6, f6, q6, c6⟩ => ?_
          have a6 := a5.step f6
          refine ⟨xs, a6.h, by rw [r2.length]; exact hz, B6, M6, acc ++ [r6], xs ++ [v], (a6.set o6).1, fr_set (f15.trans f6) hL, (a6.set o6).2, RvAll.app (rvAll_mono f6.ex r5) (.cons q6 .nil), c6⟩
        | false =>
          rw [if_neg Bool.false_ne_true]
          exact ⟨B5, M5, acc, xs, o5, f15, a5, r5, k5.2 rfl⟩
      match ifs, k, fin with
      | [], k, fin => exact ⟨tYes, pts_nil, fin true H4 ⟨B4, M4, o4, .refl, k⟩⟩
      | [c], k, fin => exact ⟨_, pts_one pt_S, tS_mono (k B4 H4 σ4 o4 e4 tk0) fin⟩
      | _ :: _ :: _, k, fin => exact k.elim
  · rw [List.drop_length] at c
    exact hd H' B' M' acc xs o f a r c.2
theorem ge_lcW (own : List (Str × Nat)) {F : List Rv → Mem → Prop} (hF : F = Frz Φ ∨ F = Own Φ) (hown : own ≠ []) (hc : X.calm = true) (hN : X.N.Nodup) (hk : BlkOk X.N X.env.scope scope own) (hs : ∀ x, foldedSetIterable iter X.env x = pure x)
    (h : GIW X tg iter ρ M (fun items S M1 => CompW X tg elt ifs scope (own.map (·.2)) ρ F S items [] M1) Ξ) : GE X (.ListComp elt [⟨tg, iter, ifs, 0⟩] scope pos) ρ M Φ Ξ := fun B H σ ok env tk =>
  eS_of (pe_lc (g := gB X scope tg) (tt := tB X scope ifs) (te := eB X scope elt) (own := own) hc hN pi_S hk (fun s H C cl fp => ⟨fun pins s' σ H v u Q I r h => h s _ C cl fp pins s' u I r⟩)
      (fun s H C cl fp => ⟨fun pins s' σ H Q I h => by obtain ⟨t, ht, k⟩ := h s _ C cl fp; exact ht.run pins s' σ H Q I k⟩) (fun s H C cl fp => ⟨fun pins s' σ H Q I h => h s _ C cl fp pins s' I⟩) hs)
    (iS_mono (h B H σ ok env tk) fun J H1 ⟨B1, M1, items, S, o1, f1, hC, w⟩ L hL => comp_turnsW own hown (F := F) w o1 (env_mono f1.ex env) hL hC fun H' B' M' acc xs o f a r k => lc_end hF f1 hL o f a r k)
/-- x = [..] -/
theorem gs_lcW (own : List (Str × Nat)) {i : Nat} {y : Str} {py spos : Pos} {F : List Rv → Mem → Prop} (hF : F = Frz (fun r M1 => D.nx (ρ.set i r) M1) ∨ F = Own (fun r M1 => D.nx (ρ.set i r) M1)) (hown : own ≠ []) (hv : Var X i y) (hc : X.calm = true) (hN : X.N.Nodup) (hyl : X.env.scope.names.lookup y = some .local)
    (hsw : swapsWith (.ListComp elt [⟨tg, iter, ifs, 0⟩] scope pos) (some (.Name y py)) spos.line X.env = pure true) (hk : BlkOk X.N X.env.scope scope own) (hs : ∀ x, foldedSetIterable iter X.env x = pure x)
    (h : GIW X tg iter ρ M (fun items S M1 => CompW X tg elt ifs scope (own.map (·.2)) ρ F S items [] M1) D.xx) : GS X (.Assign [.Name y py] (.ListComp elt [⟨tg, iter, ifs, 0⟩] scope pos) spos) ρ M D := fun B H σ ok env tk =>
  sS_of (ps_setLc (g := gB X scope tg) (tt := tB X scope ifs) (te := eB X scope elt) (own := own) hc hN hv.n hyl hsw pi_S hk (fun s H C cl fp => ⟨fun pins s' σ H v u Q I r h => h s _ C cl fp pins s' u I r⟩)
      (fun s H C cl fp => ⟨fun pins s' σ H Q I h => by obtain ⟨t, ht, k⟩ := h s _ C cl fp; exact ht.run pins s' σ H Q I k⟩) (fun s H C cl fp => ⟨fun pins s' σ H Q I h => h s _ C cl fp pins s' I⟩) hs)
    (iS_mono (h B H σ ok env tk) fun J H1 ⟨B1, M1, items, S, o1, f1, hC, w⟩ L hL => comp_turnsW own hown (F := F) (Q := fun v H1 => gName i v σ H1 (ends X.K B H M D).nx) w o1 (env_mono f1.ex env) hL hC fun H' B' M' acc xs o f a r k => by
      obtain ⟨B2, M2, r2, o2, f2, q2, k2⟩ := lc_end (Φ := fun r M1 => D.nx (ρ.set i r) M1) hF f1 hL o f a r k
      exact ⟨B2, M2, _, o2, f2, env_set (.some q2) i (env_mono f2.ex env), k2⟩)
end
end
end IR

set_option Elab.async false
set_option linter.all false
set_option maxRecDepth 100000
set_option maxHeartbeats 4000000
namespace IR
open PySem PySem.Spec PyProof.Rows L2 Dl
section
variable {X : Cx} {ρ : List Rv} {M : Mem} {Φ : Pst} {Ξ : Xi} {D : DE}
/-- a list, whatever holds it -/
def Lst (r : Rv) (rs : List Rv) (M : Mem) : Prop := (∃ a, r = .cell a ∧ Has a (Is rs) M) ∨ ∃ ds : List PyData, r = .d (.list ds) ∧ UpL ds rs
theorem lst_sq {K : Frg} {B H : Hp} {v : V} {r : Rv} {rs : List Rv} (ok : Ok K B H M) (q : RvOk K B v r) (l : Lst r rs M) : ∃ a vs, v = .ref a ∧ SqL K H a vs ∧ RvAll K B vs rs := by
  rcases l with ⟨a, rfl, hm⟩ | ⟨ds, rfl, hu⟩
  · cases q
    obtain ⟨_, vs, rs', hH, ha, hP⟩ := ok.mem _ hm.mem
    have e2 : rs' = rs := hP
    subst e2
    exact ⟨_, vs, rfl, .of hH, ha⟩
  · cases q with
    | d q => cases q with
      | lst hs ha => exact ⟨_, _, rfl, ok.ext.seq hs, hu _ _ _ ha⟩
theorem gi_overL {tg iter : Expr} {Θ : List Rv → (Mem → Prop) → Mem → Prop} (h : GE X iter ρ M (fun r M1 => ∃ rs, Lst r rs M1 ∧ Θ rs (Lst r rs) M1) Ξ) : GIW X tg iter ρ M Θ Ξ := fun B H σ ok env tk =>
  iS_of (pi_list pe_S) (one h ok env tk fun v H1 B1 M1 r o1 f1 q1 ⟨rs, l, k⟩ => by
    obtain ⟨a, vs, rfl, s1, t1⟩ := lst_sq o1 q1 l
    have at' : ∀ {H : Hp} {B : Hp} {M : Mem}, Ok X.K B H M → Same B1 B → Lst r rs M → ∃ ws, SqL X.K H a ws ∧ RvAll X.K B ws rs := fun o s l => by
      obtain ⟨b, ws, e, s2, t2⟩ := lst_sq o (rv_mono s q1) l
      cases e
      exact ⟨ws, s2, t2⟩
    refine ⟨a, rfl, ⟨vs, s1⟩, B1, M1, rs, Lst r rs, o1, f1, k, ⟨fun i H hi ⟨B, M, o, s, l⟩ => ?_, fun H ⟨B, M, o, s, l⟩ => ?_, fun i H x H' hi g y q hq B M o s l => ?_⟩⟩
    · obtain ⟨ws, s2, t2⟩ := at' o s l
      exact (walk_list (xs := ws)).goes i H (by rw [t2.length]; exact hi) s2
    · obtain ⟨ws, s2, t2⟩ := at' o s l
      have := (walk_list (xs := ws)).stops H s2
      rw [t2.length] at this; exact this
    · obtain ⟨ws, s2, t2⟩ := at' o s l
      obtain ⟨e, hx⟩ := (walk_list (xs := ws)).yields i H x H' (by rw [t2.length]; exact hi) s2 y
      subst e
      obtain ⟨z, h1, h2⟩ := RvAll.get i q t2 hq
      rw [hx] at h1; cases h1
      exact ⟨B, o, .refl, h2⟩)
theorem gi_overT {tg iter : Expr} {Θ : List Rv → (Mem → Prop) → Mem → Prop} (h : GE X iter ρ M (fun r M1 => ∃ rs, r = .tup rs ∧ Θ rs (fun _ => True) M1) Ξ) : GIW X tg iter ρ M Θ Ξ := fun B H σ ok env tk =>
  iS_of (pi_tup pe_S) (one h ok env tk fun v H1 B1 M1 r o1 f1 q1 ⟨rs, e, k⟩ => by
    subst e
    cases q1 with
    | tup hs ha =>
      rename_i a vs
      refine ⟨a, rfl, ⟨vs, sq_mono o1.ext hs⟩, B1, M1, rs, fun _ => True, o1, f1, k, ⟨fun i H hi ⟨B, M, o, s, _⟩ => ?_, fun H ⟨B, M, o, s, _⟩ => ?_, fun i H x H' hi g y q hq B M o s l => ?_⟩⟩
      · exact (walk_tup (xs := vs)).goes i H (by rw [ha.length]; exact hi) (sq_mono (s.trans o.ext) hs)
      · have := (walk_tup (xs := vs)).stops H (sq_mono (s.trans o.ext) hs)
        rw [ha.length] at this; exact this
      · obtain ⟨e, hx⟩ := (walk_tup (xs := vs)).yields i H x H' (by rw [ha.length]; exact hi) (sq_mono (s.trans o.ext) hs) y
        subst e
        obtain ⟨z, h1, h2⟩ := RvAll.get i q ha hq
        rw [hx] at h1; cases h1
        exact ⟨B, o, .refl, rv_mono s h2⟩)
theorem pairStepW {K : Frg} {B : Hp} {p q : Rv} {x y : V} {H : Hp} {T : Addr} {M : Mem} (ok : Ok K B H M) (hT : H T = none) (hx : RvOk K B x p) (hy : RvOk K B y q) : ∃ B', Ok K B' (upd H T (.tup [x, y])) M ∧ Fr B H M B' (upd H T (.tup [x, y])) M ∧ RvOk K B' (.ref T) (.tup [p, q]) := by
  have f := ok_frz (o := .tup [x, y]) ok hT
  exact ⟨_, f.1, f.2, .tup (.of upd_same) (.cons (rv_mono f.2.ex hx) (.cons (rv_mono f.2.ex hy) .nil))⟩
theorem gi_zipW {e e2 : Expr} {p pos tpos : Pos} {elts : List Expr} {kk : Nat} {Θ : List Rv → (Mem → Prop) → Mem → Prop} (hb : X.mg "zip" = none) (hg : Gl X "zip") (hs : starEach [e, e2] X.env = (false, eval e X.env) :: starEach [e2] X.env) (hpl : (backTo pos (starEach [e2] X.env)).any (·.1) = false)
    (h : GA X [e, e2] ρ M (fun rs M1 => ∃ r q xs ys, rs = [r, q] ∧ Lst r xs M1 ∧ Lst q ys M1 ∧ Θ ((xs.zip ys).map fun p => .tup [p.1, p.2]) (fun M => Lst r xs M ∧ Lst q ys M) M1) Ξ) : GIW X (.Tuple elts kk tpos) (.Call (.Name "zip" p) [e, e2] [] pos) ρ M Θ Ξ := fun B H σ ok env tk =>
  iS_of (pi_zip hg hb pa_S hs hpl) (args h ok env tk fun vs H1 B1 M1 rs o1 f1 q0 ⟨r, q, xs, ys, e, l1, l2, k⟩ => by
    subst e
    obtain ⟨v, w, rfl, q1, q2⟩ := RvAll.two q0
    obtain ⟨a, v1, rfl, s1, t1⟩ := lst_sq o1 q1 l1
    obtain ⟨b, v2, rfl, s2, t2⟩ := lst_sq o1 q2 l2
    have at1 : ∀ {H : Hp} {B : Hp} {M : Mem}, Ok X.K B H M → Same B1 B → Lst r xs M → ∃ ws, SqL X.K H a ws ∧ RvAll X.K B ws xs := fun o s l => by
      obtain ⟨b, ws, e, s2, t2⟩ := lst_sq o (rv_mono s q1) l
      cases e
      exact ⟨ws, s2, t2⟩
    have at2 : ∀ {H : Hp} {B : Hp} {M : Mem}, Ok X.K B H M → Same B1 B → Lst q ys M → ∃ ws, SqL X.K H b ws ∧ RvAll X.K B ws ys := fun o s l => by
      obtain ⟨b, ws, e, s2, t2⟩ := lst_sq o (rv_mono s q2) l
      cases e
      exact ⟨ws, s2, t2⟩
    have hn : ((xs.zip ys).map fun p : Rv × Rv => Rv.tup [p.1, p.2]).length = min xs.length ys.length := by rw [List.length_map, List.length_zip]
    refine ⟨a, b, v1, v2, rfl, s1, s2, B1, M1, _, _, o1, f1, k, ⟨fun i H hi ⟨B, M, o, s, l⟩ => ?_, fun H ⟨B, M, o, s, l⟩ => ?_, fun i H x H' hi g y z hz B M o s l => ?_⟩⟩
    · obtain ⟨w1, c1, d1⟩ := at1 o s l.1
      obtain ⟨w2, c2, d2⟩ := at2 o s l.2
      exact (walk_zip (xs := w1) (ys := w2) rfl).goes i H (by rw [d1.length, d2.length]; rw [hn] at hi; exact hi) ⟨c1, c2⟩
    · obtain ⟨w1, c1, d1⟩ := at1 o s l.1
      obtain ⟨w2, c2, d2⟩ := at2 o s l.2
      have := (walk_zip (xs := w1) (ys := w2) rfl).stops H ⟨c1, c2⟩
      rw [d1.length, d2.length] at this; rw [hn]; exact this
    · obtain ⟨w1, c1, d1⟩ := at1 o s l.1
      obtain ⟨w2, c2, d2⟩ := at2 o s l.2
      rw [hn] at hi
      obtain ⟨T, x1, y1, ev, hT, e3, h1, h2⟩ := (walk_zip (xs := w1) (ys := w2) rfl).yields i H x H' (by rw [d1.length, d2.length]; exact hi) ⟨c1, c2⟩ y
      subst ev e3
      have l1 : i < xs.length := by omega
      have l2 : i < ys.length := by omega
      have hr' : z = .tup [xs[i], ys[i]] := by
        rw [List.getElem?_map, List.getElem?_eq_getElem (by rw [List.length_zip]; omega), List.getElem_zip] at hz
        exact (Option.some.inj hz).symm
      subst hr'
      obtain ⟨u1, g1, k1⟩ := RvAll.get i xs[i] d1 (List.getElem?_eq_getElem l1)
      obtain ⟨u2, g2, k2⟩ := RvAll.get i ys[i] d2 (List.getElem?_eq_getElem l2)
      cases (show some x1 = some u1 from h1.symm.trans g1)
      cases (show some y1 = some u2 from h2.symm.trans g2)
      exact pairStepW o hT k1 k2)
theorem gi_enumW {e : Expr} {p pos tpos : Pos} {elts : List Expr} {kk : Nat} {Θ : List Rv → (Mem → Prop) → Mem → Prop} (hb : X.mg "enumerate" = none) (hg : Gl X "enumerate") (hs : starEach [e] X.env = [(false, eval e X.env)])
    (h : GA X [e] ρ M (fun rs M1 => ∃ r xs, rs = [r] ∧ Lst r xs M1 ∧ Θ (xs.zipIdx.map fun p => .tup [.d (.int (p.2 : Nat)), p.1]) (Lst r xs) M1) Ξ) : GIW X (.Tuple elts kk tpos) (.Call (.Name "enumerate" p) [e] [] pos) ρ M Θ Ξ := fun B H σ ok env tk =>
  iS_of (pi_enum hg hb pa_S hs) (args h ok env tk fun vs H1 B1 M1 rs o1 f1 q0 ⟨r, xs, e, l1, k⟩ => by
    subst e
    obtain ⟨v, rfl, q1⟩ := RvAll.one q0
    obtain ⟨a, v1, rfl, s1, t1⟩ := lst_sq o1 q1 l1
    have at1 : ∀ {H : Hp} {B : Hp} {M : Mem}, Ok X.K B H M → Same B1 B → Lst r xs M → ∃ ws, SqL X.K H a ws ∧ RvAll X.K B ws xs := fun o s l => by
      obtain ⟨b, ws, e, s2, t2⟩ := lst_sq o (rv_mono s q1) l
      cases e
      exact ⟨ws, s2, t2⟩
    have hn : (xs.zipIdx.map fun p : Rv × Nat => Rv.tup [.d (.int (p.2 : Nat)), p.1]).length = xs.length := by rw [List.length_map, List.length_zipIdx]
    refine ⟨a, v1, rfl, s1, B1, M1, _, _, o1, f1, k, ⟨fun i H hi ⟨B, M, o, s, l⟩ => ?_, fun H ⟨B, M, o, s, l⟩ => ?_, fun i H x H' hi g y z hz B M o s l => ?_⟩⟩
    · obtain ⟨w1, c1, d1⟩ := at1 o s l
      exact (walk_enum (xs := w1)).goes i H (by rw [d1.length]; rw [hn] at hi; exact hi) c1
    · obtain ⟨w1, c1, d1⟩ := at1 o s l
      have := (walk_enum (xs := w1)).stops H c1
      rw [d1.length] at this; rw [hn]; exact this
    · obtain ⟨w1, c1, d1⟩ := at1 o s l
      rw [hn] at hi
      obtain ⟨T, x1, y1, ev, hT, e3, h1, h2⟩ := (walk_enum (xs := w1)).yields i H x H' (by rw [d1.length]; exact hi) c1 y
      subst ev e3
      have hr' : z = .tup [.d (.int (i : Nat)), xs[i]] := by
        rw [List.getElem?_map, List.getElem?_zipIdx, List.getElem?_eq_getElem hi] at hz
        simpa using (Option.some.inj hz).symm
      subst hr'
      obtain ⟨u1, g1, k1⟩ := RvAll.get i xs[i] d1 (List.getElem?_eq_getElem hi)
      cases (show some y1 = some u1 from h2.symm.trans g1)
      cases (show some (V.int (i : Nat)) = some x1 from h1)
      exact pairStepW o hT (.d (.int _)) k1)
theorem walk_rngW {K : Frg} {B1 : Hp} {lo : Int} {n : Nat} : Walk (Itr lo n) ((List.range n).map fun i => Rv.d (.int (lo + (i : Nat)))).length (GWk K B1 fun _ => True) (YWk K B1 (fun _ => True) ((List.range n).map fun i => Rv.d (.int (lo + (i : Nat))))) := by
  have hn : ((List.range n).map fun i => Rv.d (.int (lo + (i : Nat)))).length = n := by rw [List.length_map, List.length_range]
  rw [hn]
  refine ⟨fun i H hi _ => walk_range.goes i H hi trivial, fun H _ => walk_range.stops H trivial, fun i H x H' hi _ y q hq B M o s _ => ?_⟩
  obtain ⟨e, hx⟩ := walk_range.yields i H x H' hi trivial y
  subst e hx
  rw [List.getElem?_map, List.getElem?_range hi] at hq
  cases hq
  exact ⟨B, o, .refl, .d (.int _)⟩
theorem gi_rng1W {tg a : Expr} {p pos : Pos} {Θ : List Rv → (Mem → Prop) → Mem → Prop} (hb : X.mg "range" = none) (hg : Gl X "range") (hs : starEach [a] X.env = [(false, eval a X.env)])
    (h : GA X [a] ρ M (fun rs M1 => ∃ j : Int, rs = [.d (.int j)] ∧ -(2 ^ 62) ≤ j ∧ j < 2 ^ 62 ∧ Θ ((List.range j.toNat).map fun i => .d (.int (0 + (i : Nat)))) (fun _ => True) M1) Ξ) : GIW X tg (.Call (.Name "range" p) [a] [] pos) ρ M Θ Ξ := fun B H σ ok env tk =>
  iS_of (pi_range1 hg hb pa_S hs) (args h ok env tk fun vs H1 B1 M1 rs o1 f1 q0 ⟨j, e, hj1, hj2, k⟩ => by
    subst e
    obtain ⟨v, rfl, q1⟩ := RvAll.one q0
    exact ⟨j, by rw [int_of q1], hj1, hj2, B1, M1, _, _, o1, f1, k, walk_rngW⟩)
theorem gi_rng2W {tg a b : Expr} {p pos : Pos} {Θ : List Rv → (Mem → Prop) → Mem → Prop} (hb : X.mg "range" = none) (hg : Gl X "range") (hs : starEach [a, b] X.env = [(false, eval a X.env), (false, eval b X.env)]) (hs2 : starEach [b] X.env = [(false, eval b X.env)])
    (h : GA X [a, b] ρ M (fun rs M1 => ∃ i j : Int, rs = [.d (.int i), .d (.int j)] ∧ (-(2 ^ 62) ≤ i ∧ i < 2 ^ 62 ∧ -(2 ^ 62) ≤ j ∧ j < 2 ^ 62) ∧ Θ ((List.range (j - i).toNat).map fun k => .d (.int (i + (k : Nat)))) (fun _ => True) M1) Ξ) : GIW X tg (.Call (.Name "range" p) [a, b] [] pos) ρ M Θ Ξ := fun B H σ ok env tk =>
  iS_of (pi_range2 hg hb pa_S hs hs2) (args h ok env tk fun vs H1 B1 M1 rs o1 f1 q0 ⟨i, j, e, hj, k⟩ => by
    subst e
    obtain ⟨v, w, rfl, q1, q2⟩ := RvAll.two q0
    exact ⟨i, j, by rw [int_of q1, int_of q2], hj, B1, M1, _, _, o1, f1, k, walk_rngW⟩)
theorem walk_rngCW {K : Frg} {B1 : Hp} {lo c : Int} {n : Nat} : Walk (Itc lo c n) ((List.range n).map fun i => Rv.d (.int (lo + (i : Nat) * c))).length (GWk K B1 fun _ => True) (YWk K B1 (fun _ => True) ((List.range n).map fun i => Rv.d (.int (lo + (i : Nat) * c)))) := by
  have hn : ((List.range n).map fun i => Rv.d (.int (lo + (i : Nat) * c))).length = n := by rw [List.length_map, List.length_range]
  rw [hn]
  refine ⟨fun i H hi _ => walk_rangeC.goes i H hi trivial, fun H _ => walk_rangeC.stops H trivial, fun i H x H' hi _ y q hq B M o s _ => ?_⟩
  obtain ⟨e, hx⟩ := walk_rangeC.yields i H x H' hi trivial y
  subst e hx
  rw [List.getElem?_map, List.getElem?_range hi] at hq
  cases hq
  exact ⟨B, o, .refl, .d (.int _)⟩
theorem gi_rng3W {tg a b d : Expr} {p pos : Pos} {Θ : List Rv → (Mem → Prop) → Mem → Prop} (hb : X.mg "range" = none) (hg : Gl X "range") (hs : starEach [a, b, d] X.env = (false, eval a X.env) :: starEach [b, d] X.env) (hpl : (backTo pos (starEach [b, d] X.env)).any (·.1) = false)
    (h : GA X [a, b, d] ρ M (fun rs M1 => ∃ i j : Int, rs = [.d (.int i), .d (.int j), .d (.int (-1))] ∧ (-(2 ^ 62) ≤ i ∧ i < 2 ^ 62 ∧ -(2 ^ 62) ≤ j ∧ j < 2 ^ 62) ∧ Θ ((List.range (i - j).toNat).map fun k => .d (.int (i + (k : Nat) * (-1)))) (fun _ => True) M1) Ξ) : GIW X tg (.Call (.Name "range" p) [a, b, d] [] pos) ρ M Θ Ξ := fun B H σ ok env tk =>
  iS_of (pi_range3 hg hb pa_S hs hpl) (args h ok env tk fun vs H1 B1 M1 rs o1 f1 q0 ⟨i, j, e, hj, k⟩ => by
    subst e
    cases q0 with
    | cons q1 q0 => cases q0 with
      | cons q2 q0 => cases q0 with
        | cons q3 q0 =>
          cases q0
          exact ⟨i, j, -1, _, by rw [int_of q1, int_of q2, int_of q3], RgC.neg hj.1 hj.2.1 hj.2.2.1 hj.2.2.2, B1, M1, _, _, o1, f1, k, walk_rngCW⟩)
theorem gg_lstU {ts : List Expr} {k : Nat} {pos : Pos} {rs : List Rv} {ds : List PyData} {Ψ : List Rv → Mem → Prop} {vs : List Nat} (hc : X.calm = true) (hu : UpL ds rs)
    (hn : (assignEach ts X.env).length = rs.length) (hs : (assignEach ts X.env).findIdx? (·.1) = none) (h : GGs X ts rs ρ M Ψ vs) : GG X (.Tuple ts k pos) (.d (.list ds)) ρ M Ψ vs := fun B H σ v ok env q => by
  cases q with
  | d q => cases q with
    | lst hq ha =>
      obtain ⟨t, ht, k⟩ := h B H σ _ ok env (hu _ _ _ ha)
      exact gS_of (pg_lst hc ht hn hs) ⟨_, _, rfl, ok.ext.seq hq, (hu _ _ _ ha).length, k⟩
/-! ## targets within targets -/
def gsS (X : Cx) (ts : List Expr) : TGs := fun vs σ H Q => ∀ (pins : List (Addr × Obj)) (s : Shared) (us : List Value), Inv X pins σ H s → Vals vs us →
  wpAny (model X.prog X.w) X.A (assignInOrder ((assignEach ts X.env).map (·.2)) us) (fun _ s' => ∃ σ' H', Inv X pins σ' H' s' ∧ Q σ' H') X.xe s
theorem pgs_S {ts : List Expr} : PGs X ts (gsS X ts) := ⟨fun pins s σ H vs us Q I r h => h pins s us I r⟩
theorem gsS_of {ts : List Expr} {t : TGs} (h : PGs X ts t) {vs : List V} {σ : Slots} {H : Hp} {Q : Slots → Hp → Prop} (q : t vs σ H Q) : gsS X ts vs σ H Q := fun pins s us I r => h.run pins s σ H vs us Q I r q
theorem gsS_mono {ts : List Expr} {vs : List V} {σ : Slots} {H : Hp} {Q Q' : Slots → Hp → Prop} (h : gsS X ts vs σ H Q) (k : ∀ σ' H', Q σ' H' → Q' σ' H') : gsS X ts vs σ H Q' := fun pins s us I r =>
  thn (h pins s us I r) fun _ s' ⟨σ', H', I', q⟩ => ⟨σ', H', I', k _ _ q⟩
theorem ggs_consG {tg : Expr} {ts : List Expr} {r : Rv} {rs : List Rv} {Ψ : List Rv → Mem → Prop} {vs : List Nat} (he : (assignEach (tg :: ts) X.env).map (·.2) = assign tg X.env :: (assignEach ts X.env).map (·.2))
    (hr : GG X tg r ρ M (fun ρ1 M1 => GGs X ts rs ρ1 M1 Ψ vs) vs) : GGs X (tg :: ts) (r :: rs) ρ M Ψ vs := fun B H σ us ok env q => by
  cases q with
  | cons q qs =>
    rename_i v us
    refine ⟨gCons (gS X tg) (gsS X ts), pgs_cons pg_S pgs_S he, v, us, rfl, ?_⟩
    refine gS_mono (hr B H σ v ok env q) fun σ1 H1 ⟨w, B1, M1, ρ1, o1, f1, e1, k⟩ => ?_
    obtain ⟨t, ht, k2⟩ := k B1 H1 σ1 us o1 e1 (rvAll_mono f1.ex qs)
    exact gsS_mono (gsS_of ht k2) fun σ2 H2 ⟨w2, z⟩ => ⟨fun hv => (w2 hv).trans (w hv), postN_after f1 z⟩
end
end IR

set_option Elab.async false
set_option linter.all false
set_option maxRecDepth 100000
set_option maxHeartbeats 4000000
namespace IR
open PySem PySem.Spec PyProof.Rows L2 Dl
theorem plainIx {b : Expr} (h1 : notSlice b = true) : PlainIx b := by
  intro o i
  cases b <;> first | rfl | cases h1
theorem star_cons {e : Expr} {es : List Expr} {env : Env} (h : notStar e = true) : starEach (e :: es) env = (false, eval e env) :: starEach es env := by
  cases e <;> first | rfl | cases h
theorem star_any {env : Env} {pos : Pos} : ∀ {es : List Expr}, es.all notStar = true → (backTo pos (starEach es env)).any (·.1) = false
  | [], _ => rfl
  | e :: es, h => by
    rw [List.all_cons, Bool.and_eq_true] at h
    rw [star_cons h.1]
    have := star_any (env := env) (pos := pos) h.2
    simpa [backTo] using this
theorem asg_cons {e : Expr} {es : List Expr} {env : Env} (h : notStar e = true) : assignEach (e :: es) env = (false, assign e env) :: assignEach es env := by
  cases e <;> first | rfl | cases h
theorem marks_no {op : CmpOp} {b : Expr} (h : notSet b = true) : behindInMarks op b = false := by
  cases b <;> first | rfl | cases h
theorem fold_no {b : Expr} (h : notSet b = true) (env : Env) : ∀ x, foldedSetIterable b env x = pure x := by
  intro x
  cases b <;> first | rfl | cases h
theorem swap_no {e : Expr} {t : Option Expr} {l : Nat} {env : Env} (h : notComp e = true) : swapsWith e t l env = pure false := by
  cases e <;> first | rfl | cases h
theorem attr_no {o : Expr} {a : Str} {env : Env} {w : Sem Value} (h : plainB o = true) : attributeBase o a env w = w := by
  cases o <;> first | rfl | cases h
def plainT : Expr → Bool
  | .UnaryOp .Not _ _ => false
  | .BoolOp _ _ _ => false
  | .IfExp _ _ _ _ => false
  | .Compare _ _ _ _ => false
  | _ => true
theorem true_plain {e : Expr} {env : Env} (h : plainT e = true) : ∀ whole, isTrue e env whole = (do let v ← whole; standAt e.pos; holding [v] (truthy v)) := by
  intro w
  cases e with
  | UnaryOp o a p => cases o <;> first | rfl | cases h
  | _ => first | rfl | cases h
/-! ## what stands around -/
structure Ctx (X : Cx) (c : Cc) (C : Str → List Vl → Mm → R Vl) (k : Nat) : Prop where
  hN : X.N = c.N
  sc : X.env.scope = c.sc
  nd : X.N.Nodup
  calm : X.calm = true
  gu : X.A.guards = some []
  room : Room k X.A
  fns : ∀ f ps ords, c.fns.lookup f = some (ps, ords) → Def X f k ps ords (pdI X.mg C f ps.length) ∧ ∀ xs h, xs.length ≠ ps.length → C f xs h = .bad
  cons : ∀ x v, c.cons.lookup x = some v → Glo X x (.int v)
  bts : ∀ x ∈ c.bts, X.mg x = none
  fn : c.blk = false → (∀ x, X.fn x = true) ∧ c.vs = []
section
variable {X : Cx} {c : Cc} {C : Str → List Vl → Mm → R Vl} {k : Nat}
theorem Ctx.un (x : Ctx X c C k) : X.A.units + 64 < cLine := by have := x.room.un; omega
theorem idx_at {x : Str} : ∀ {N : List Str} {i : Nat}, idxOf x N = some i → N[i]? = some x
  | [], _, h => by cases h
  | y :: ys, i, h => by
    unfold idxOf at h
    split at h
    · rename_i e; cases h; simp [e]
    · obtain ⟨j, h1, h2⟩ := Option.map_eq_some_iff.mp h
      subst h2
      simpa using idx_at h1
theorem isVis_vis {sc : Scope} {x : Str} (h : isVis (sc.names.lookup x) = true) : Vis sc x := by
  unfold isVis at h
  split at h
  · rename_i e; exact .inl e
  · rename_i e; exact .inr (.inl e)
  · rename_i e; exact .inr (.inr e)
  · cases h
theorem isLoc_loc {sc : Scope} {x : Str} (h : isLoc (sc.names.lookup x) = true) : L2.Loc sc x := by
  unfold isLoc at h
  split at h
  · rename_i e; exact .inl e
  · rename_i e; exact .inr e
  · cases h
theorem gl_of (x : Ctx X c C k) {n : Str} (h : isGl c n = true) : Gl X n ∧ (n == ("__debug__" : Str)) = false := by
  unfold isGl at h
  simp only [Bool.and_eq_true, decide_eq_true_eq, Bool.not_eq_true'] at h
  exact ⟨by unfold Gl Env.kindOf; rw [x.sc]; exact h.1, h.2⟩
theorem slotR_of (x : Ctx X c C k) {n : Str} {i : Nat} (h : slotR c n = some i) : Nm X i n ∧ Vis X.env.scope n ∧ (n == ("__debug__" : Str)) = false ∧ (n == ("__classdict__" : Str)) = false := by
  unfold slotR at h
  split at h
  · rename_i e
    simp only [Bool.and_eq_true, Bool.not_eq_true'] at e
    exact ⟨by unfold Nm; rw [x.hN]; exact idx_at h, by rw [x.sc]; exact isVis_vis e.1.1, e.1.2, e.2⟩
  · cases h
theorem slotW_of (x : Ctx X c C k) {n : Str} {i : Nat} (h : slotW c n = some i) : X.N[i]? = some n ∧ L2.Loc X.env.scope n ∧ (X.fn n = true ∨ X.env.scope.names.lookup n = some .local) ∧ ((c.blk = false ∧ c.vs = []) ∨ i ∈ c.vs) ∧ (n == ("__debug__" : Str)) = false ∧ (n == ("__classdict__" : Str)) = false := by
  unfold slotW at h
  split at h
  · rename_i e
    simp only [Bool.and_eq_true, Bool.not_eq_true'] at e
    split at h
    · rename_i hb
      split at h
      · rename_i hl
        rw [decide_eq_true_eq] at hl
        split at h
        · rename_i j hj
          split at h
          · rename_i hv
            cases h
            exact ⟨by rw [x.hN]; exact idx_at hj, .inl (by rw [x.sc]; exact hl), .inr (by rw [x.sc]; exact hl), .inr (by simpa using hv), e.1, e.2⟩
          · cases h
        · cases h
      · cases h
    · rename_i hb
      have hb : c.blk = false := by simpa using hb
      split at h
      · rename_i hl
        have f := x.fn hb
        exact ⟨by rw [x.hN]; exact idx_at h, by rw [x.sc]; exact isLoc_loc hl, .inl (f.1 n), .inl ⟨hb, f.2⟩, e.1, e.2⟩
      · cases h
  · cases h
theorem Ctx.block (x : Ctx X c C k) (scope : Scope) : AllB X scope fun X1 => Ctx X1 (blkOf c scope) C k := fun s H Cc cl fp =>
  ⟨x.hN, by show relS scope X.env.scope = relS scope c.sc; rw [x.sc], x.nd, x.calm, x.gu, x.room, fun f ps ords e => ⟨bDef (x.fns f ps ords e).1, (x.fns f ps ords e).2⟩, fun n v e => bGlo (x.cons n v e), x.bts, fun e => by cases e⟩
/-! ## what is shown of each expression -/
abbrev XI (ρ : List Rv) (Ξ : Xi) : EV → Mem → Prop := fun x M' => Ξ x ρ M'
def SoE (X : Cx) (C : Str → List Vl → Mm → R Vl) (e : Expr) (v : E) : Prop :=
  ∀ as h ρE ρ M (Φ : Pst) (Ξ : Xi), ERel as ρE ρ → MOk as h M → Post X.mg as (ev C v ρE h) Φ (XI ρ Ξ) → GE X e ρ M Φ Ξ
def SoT (X : Cx) (C : Str → List Vl → Mm → R Vl) (e : Expr) (v : E) : Prop :=
  ∀ as h ρE ρ M (Ψ : Bool → Mem → Prop) (Ξ : Xi), ERel as ρE ρ → MOk as h M → PV X.mg as (tv C v ρE h) (QT Ψ) (XI ρ Ξ) → GT X e ρ M Ψ Ξ
def QI (Θ : List Rv → (Mem → Prop) → Mem → Prop) : List Addr → (List Vl × Watch) → Mm → Prop := fun as' p h' =>
  ∀ rs S M', RelL as' p.1 rs → MOk as' h' M' → (∀ as2 h2 M2, as' <+: as2 → MOk as2 h2 M2 → Still p.2 h2 → S M2) → Θ rs S M'
def SoI (X : Cx) (C : Str → List Vl → Mm → R Vl) (tg e : Expr) (v : E) : Prop :=
  ∀ as h ρE ρ M (Θ : List Rv → (Mem → Prop) → Mem → Prop) (Ξ : Xi), ERel as ρE ρ → MOk as h M → PV X.mg as (evIt C v ρE h) (QI Θ) (XI ρ Ξ) → GIW X tg e ρ M Θ Ξ
theorem ge_bad {e : Expr} {ρ : List Rv} {M : Mem} {Φ : Pst} {Ξ : Xi} (h : False) : GE X e ρ M Φ Ξ := h.elim
theorem so_stop {e : Expr} : SoE X C e .stop := fun _ _ _ _ _ _ _ _ _ p => p.elim
theorem so_stopT {e : Expr} : SoT X C e .stop := fun _ _ _ _ _ _ _ _ _ p => p.elim
theorem so_stopI {tg e : Expr} : SoI X C tg e .stop := fun _ _ _ _ _ _ _ _ _ p => p.elim
/-! truth -/
theorem gt_truR {e : Expr} {ρ : List Rv} {M : Mem} {Ψ : Bool → Mem → Prop} {Ξ : Xi} (hw : plainT e = true) (ha : GE X e ρ M (fun r M1 => ∃ as h x b, Rel as x r ∧ MOk as h M1 ∧ truth h x = some b ∧ Ψ b M1) Ξ) : GT X e ρ M Ψ Ξ :=
  fun B H σ ok env tk => tS_of (pt_truth pe_S (true_plain hw)) (one ha ok env tk fun v H1 B1 M1 r o1 f1 q1 ⟨as, h, x, b, rx, m, t, q⟩ => by
    refine ⟨b, ?_, B1, M1, o1, f1, q⟩
    cases rx with
    | bl => simp [truth] at t; subst t; rw [bool_of q1]; rfl
    | non => simp [truth] at t; subst t; rw [non_of q1]; rfl
    | tup a =>
      simp [truth] at t
      cases q1 with
      | tup h1 h2 =>
        refine .inr (.inl ⟨_, sq_mono o1.ext h1, ?_⟩)
        rw [isEmpty_len h2.length, ← isEmpty_len a.len, t, Bool.not_not]
    | cell e =>
      simp only [truth] at t
      obtain ⟨xs, h1, h2⟩ := Option.map_eq_some_iff.mp t
      obtain ⟨a, vs, rs, e1, s1, t1, u1⟩ := sqv o1 m (x := .cell _) h1 (.cell e) q1
      cases e1
      exact .inl ⟨_, s1, by rw [isEmpty_len t1.length, ← isEmpty_len u1.len, h2]⟩
    | int =>
      simp only [truth, Option.some.injEq] at t
      rw [int_of q1, ← t]
      show decide (_ ≠ (0 : Int)) = (_ != 0)
      rw [Bool.eq_iff_iff]; simp
    | str => cases t
    | lst pu =>
      simp [truth] at t
      cases q1 with
      | d q1 => cases q1 with
        | lst s1 t1 =>
          refine .inl ⟨_, o1.ext.seq s1, ?_⟩
          rw [isEmpty_len (DpAll.len t1), ← isEmpty_len pu.len, t, Bool.not_not]
    | frz => cases t)
theorem so_tru {e : Expr} {v : E} (hw : plainT e = true) (he : SoE X C e v) : SoT X C e (.tru v) := fun as h ρE ρ M Ψ Ξ er m p => by
  refine gt_truR hw (he as h ρE ρ M _ Ξ er m ?_)
  rw [tv] at p
  refine (pv_bind p).imp fun as' x h' pre q r M' rx m' => ?_
  simp only [boolOf] at q
  split at q
  · rename_i b hb
    exact ⟨as', h', x, b, rx, m', hb, q as' List.prefix_rfl M' m'⟩
  · exact q.elim
/-! walks -/
theorem still_one {as : List Addr} {h : Mm} {x : Vl} {r : Rv} {xs : List Vl} {rs : List Rv} (hs : seqOf h x = some xs) (rx : Rel as x r) (rl : RelL as xs rs) :
    ∀ as2 h2 M2, as <+: as2 → MOk as2 h2 M2 → Still (watch h x) h2 → Lst r rs M2 := fun as2 h2 M2 pre m st => by
  cases rx with
  | cell e =>
    have hx : h[_]? = some xs := hs
    simp only [watch, hx] at st
    have := st _ (List.mem_singleton.mpr rfl)
    obtain ⟨rs', r1, hm⟩ := m.get (pre_get pre e) this
    cases r1.inj (rl.mono pre)
    exact .inl ⟨_, rfl, hm⟩
  | frz ns =>
    have e3 : xs = ns.map .int := by simp only [seqOf] at hs; exact (Option.some.inj hs).symm
    subst e3
    refine .inr ⟨_, rfl, ?_⟩
    cases rl.inj (RelL.ints ns)
    intro K B vs q
    have := RvAll.ofData q
    rwa [List.map_map] at this
  | lst pu =>
    simp only [seqOf, Option.some.injEq] at hs
    subst hs
    obtain ⟨rs', h1, h2⟩ := pu.up as
    cases rl.inj h1
    exact .inr ⟨_, rfl, h2⟩
  | non => cases hs
  | bl => cases hs
  | int => cases hs
  | str => cases hs
  | tup => cases hs
theorem still_now {h : Mm} {x : Vl} {xs : List Vl} (hs : seqOf h x = some xs) : Still (watch h x) h := by
  intro p hp
  cases x with
  | cell n =>
    have hx : h[n]? = some xs := hs
    simp only [watch, hx, List.mem_singleton] at hp
    subst hp; exact hx
  | _ => simp [watch] at hp
theorem rel_of {as : List Addr} {h : Mm} {M : Mem} {x : Vl} {r : Rv} {xs : List Vl} (m : MOk as h M) (hs : seqOf h x = some xs) (rx : Rel as x r) : ∃ rs, RelL as xs rs := by
  cases rx with
  | cell e => obtain ⟨rs, r1, _⟩ := m.get e hs; exact ⟨rs, r1⟩
  | frz ns =>
    have e3 : xs = ns.map .int := by simp only [seqOf] at hs; exact (Option.some.inj hs).symm
    subst e3
    exact ⟨_, RelL.ints ns⟩
  | lst pu =>
    simp only [seqOf, Option.some.injEq] at hs
    subst hs
    obtain ⟨rs', h1, h2⟩ := pu.up as
    exact ⟨_, h1⟩
  | non => cases hs
  | bl => cases hs
  | int => cases hs
  | str => cases hs
  | tup => cases hs
theorem so_over {tg e : Expr} {v : E} (he : SoE X C e v) : SoI X C tg e (.over v) := fun as h ρE ρ M Θ Ξ er m p => by
  rw [evIt] at p
  have p := pv_bind p
  cases hv : ev C v ρE h with
  | bad => rw [hv] at p; exact p.elim
  | err x h' =>
    refine gi_overL (he as h ρE ρ M _ Ξ er m ?_)
    rw [hv] at p ⊢; exact p
  | ok x h' =>
    have hp := p
    rw [hv] at hp
    have hp := hp as List.prefix_rfl
    dsimp only at hp
    cases hi : itV h' x with
    | none => rw [hi] at hp; exact hp.elim
    | some w =>
      cases x with
      | tup xs =>
        refine gi_overT (he as h ρE ρ M _ Ξ er m ?_)
        rw [hv] at p ⊢
        intro as' pre r M' rx m'
        cases rx with
        | tup a => exact ⟨_, rfl, p as' pre as' List.prefix_rfl _ _ M' a m' fun _ _ _ _ _ _ => trivial⟩
      | _ =>
        refine gi_overL (he as h ρE ρ M _ Ξ er m ?_)
        rw [hv] at p ⊢
        intro as' pre r M' rx m'
        have q := p as' pre
        simp only [itV] at q hi
        split at q
        · rename_i w' hw'
          split at hw'
          · rename_i xs hs
            cases hw'
            obtain ⟨rs, rl⟩ := rel_of m' hs rx
            exact ⟨rs, still_one hs rx rl as' h' M' List.prefix_rfl m' (still_now hs), q as' List.prefix_rfl rs _ M' rl m' (still_one hs rx rl)⟩
          · cases hw'
        · exact q.elim
end
end IR

set_option Elab.async false
set_option linter.all false
set_option maxRecDepth 100000
set_option maxHeartbeats 4000000
namespace IR
open PySem PySem.Spec PyProof.Rows L2 Dl
section
variable {X : Cx} {c : Cc} {C : Str → List Vl → Mm → R Vl} {k : Nat}
theorem so_int {i : Int} {j : Nat} {pos : Pos} : SoE X C (.Constant (.int i) j pos) (.int i) := fun as h ρE ρ M Φ Ξ er m p => by rw [ev] at p; exact ge_int (post_val p m (.int _))
theorem so_bl {i : Bool} {j : Nat} {pos : Pos} : SoE X C (.Constant (.bool i) j pos) (.bl i) := fun as h ρE ρ M Φ Ξ er m p => by rw [ev] at p; exact ge_bl (post_val p m (.bl _))
theorem so_non {j : Nat} {pos : Pos} : SoE X C (.Constant .none j pos) .non := fun as h ρE ρ M Φ Ξ er m p => by rw [ev] at p; exact ge_non (post_val p m .non)
theorem so_str {i : Str} {j : Nat} {pos : Pos} : SoE X C (.Constant (.str i) j pos) (.str i) := fun as h ρE ρ M Φ Ξ er m p => by rw [ev] at p; exact ge_str (post_val p m (.str _))
theorem so_name (x : Ctx X c C k) {n : Str} {pos : Pos} : SoE X C (.Name n pos) (nameC c n) := by
  unfold nameC
  split
  · rename_i i hi
    intro as h ρE ρ M Φ Ξ er m p
    obtain ⟨h1, h2, h3, h4⟩ := slotR_of x hi
    rw [ev] at p
    split at p
    · rename_i v hv
      obtain ⟨q, e, rq⟩ := er.get i hv
      exact ge_nameC h1 h2 e rq.notAny (post_val p m rq) h3 h4
    · exact p.elim
  · split
    · rename_i hg
      split
      · rename_i v hv
        intro as h ρE ρ M Φ Ξ er m p
        rw [ev] at p
        exact ge_gint (x.cons _ _ hv) (gl_of x hg).1 (post_val p m (.int _))
      · exact so_stop
    · exact so_stop
theorem so_bin (x : Ctx X c C k) {a b : Expr} {o : Op} {pos : Pos} {va vb : E} (ha : SoE X C a va) (hb : SoE X C b vb) : SoE X C (.BinOp a (opv o) b pos) (.bin o va vb) := fun as h ρE ρ M Φ Ξ er m p => by
  rw [ev] at p
  refine ge_bin (ha as h ρE ρ M _ Ξ er m ((pv_bind p).imp fun as1 u h1 pre q r M1 r1 m1 => ?_))
  refine hb as1 h1 ρE ρ M1 _ Ξ (er.mono pre) m1 ((pv_bind q).imp fun as2 w h2 pre2 q2 r2 M2 rr2 m2 => ?_)
  exact bin_ok q2 m2 (r1.mono pre2) rr2
theorem so_cmp (x : Ctx X c C k) {a b : Expr} {o : Cp} {pos : Pos} {va vb : E} (hs : notSet b = true) (ha : SoE X C a va) (hb : SoE X C b vb) : SoE X C (.Compare a [cpv o] [b] pos) (.cmp o va vb) := fun as h ρE ρ M Φ Ξ er m p => by
  rw [ev] at p
  refine ge_cmp (marks_no hs) (ha as h ρE ρ M _ Ξ er m ((pv_bind p).imp fun as1 u h1 pre q r M1 r1 m1 => ?_))
  refine hb as1 h1 ρE ρ M1 _ Ξ (er.mono pre) m1 ((pv_bind q).imp fun as2 w h2 pre2 q2 r2 M2 rr2 m2 => ?_)
  exact cmp_ok q2 x.un m2 (r1.mono pre2) rr2
/-- what a comparison hands on: a bool -/
theorem cmp_bool {mg : Mg} {o : Cp} {x y : Vl} {h : Mm} {as : List Addr} {Q : List Addr → Vl → Mm → Prop} {Ξ : EV → Mem → Prop} (p : PV mg as (cmpV o x y h) Q Ξ) : ∃ b, cmpV o x y h = .ok (.bl b) h ∧ ∀ as', as <+: as' → Q as' (.bl b) h := by
  cases e : cmpV o x y h with
  | bad => rw [e] at p; exact p.elim
  | err z h' => cases o <;> simp only [cmpV] at e <;> split at e <;> cases e
  | ok v h' =>
    rw [e] at p
    have : ∃ b, v = .bl b ∧ h' = h := by
      cases o <;> simp only [cmpV] at e <;> split at e <;> cases e <;> exact ⟨_, rfl, rfl⟩
    obtain ⟨b, rfl, rfl⟩ := this
    exact ⟨b, rfl, p⟩
theorem so_cmpT (x : Ctx X c C k) {a b : Expr} {o : Cp} {pos : Pos} {va vb : E} (hs : notSet b = true) (ha : SoE X C a va) (hb : SoE X C b vb) : SoT X C (.Compare a [cpv o] [b] pos) (.tru (.cmp o va vb)) := fun as h ρE ρ M Ψ Ξ er m p => by
  rw [tv, ev] at p
  refine gt_cmp (marks_no hs) (ha as h ρE ρ M _ Ξ er m ((pv_bind (pv_bind p |> fun z => (show PV X.mg as (((ev C va ρE h).bind fun x h1 => (ev C vb ρE h1).bind fun y h2 => cmpV o x y h2)) _ (XI ρ Ξ) from z))).imp fun as1 u h1 pre q r M1 r1 m1 => ?_))
  refine hb as1 h1 ρE ρ M1 _ Ξ (er.mono pre) m1 ((pv_bind q).imp fun as2 w h2 pre2 q2 r2 M2 rr2 m2 => ?_)
  obtain ⟨b, e, q3⟩ := cmp_bool q2
  refine cmp_ok (mg := X.mg) (ξ := fun _ _ => True) (Φ := fun r M3 => ∃ c, r = .d (.bool c) ∧ Ψ c M3) ?_ x.un m2 (r1.mono pre2) rr2
  rw [e]
  intro as3 pre3 r3 M3 rr3 m3
  cases rr3
  have := q3 as3 pre3
  exact ⟨b, rfl, this as3 List.prefix_rfl M3 m3⟩
theorem so_chain (x : Ctx X c C k) {a b d : Expr} {o o' : Cp} {pos : Pos} {va vb vd : E} (hs : notSet d = true) (ha : SoE X C a va) (hb : SoE X C b vb) (hd : SoE X C d vd) : SoE X C (.Compare a [cpv o, cpv o'] [b, d] pos) (.chain o o' va vb vd) := fun as h ρE ρ M Φ Ξ er m p => by
  rw [ev] at p
  refine ge_chain (marks_no hs) (ha as h ρE ρ M _ Ξ er m ((pv_bind p).imp fun as1 u h1 pre q r M1 r1 m1 => ?_))
  refine hb as1 h1 ρE ρ M1 _ Ξ (er.mono pre) m1 ((pv_bind q).imp fun as2 w h2 pre2 q2 r2 M2 rr2 m2 => ?_)
  obtain ⟨b, e, q3⟩ := cmp_bool (pv_bind q2)
  refine cmp_ok (mg := X.mg) (ξ := fun _ _ => True) ?_ x.un m2 (r1.mono pre2) rr2
  rw [e]
  intro as3 pre3 r3 M3 rr3 m3
  cases rr3
  have q3 := q3 as3 pre3
  refine ⟨b, rfl, fun hb => ?_, fun hb => ?_⟩
  · subst hb
    refine hd as3 h2 ρE ρ M3 _ Ξ (er.mono (pre.trans (pre2.trans pre3))) m3 ((pv_bind q3).imp fun as4 z h4 pre4 q4 r4 M4 rr4 m4 => ?_)
    exact cmp_ok q4 x.un m4 (rr2.mono (pre3.trans pre4)) rr4
  · subst hb
    exact post_val q3 m3 (.bl _)
theorem so_chainT (x : Ctx X c C k) {a b d : Expr} {o o' : Cp} {pos : Pos} {va vb vd : E} (hs : notSet d = true) (ha : SoE X C a va) (hb : SoE X C b vb) (hd : SoE X C d vd) : SoT X C (.Compare a [cpv o, cpv o'] [b, d] pos) (.tru (.chain o o' va vb vd)) := fun as h ρE ρ M Ψ Ξ er m p => by
  rw [tv, ev] at p
  have p := pv_bind p
  refine gt_chain (marks_no hs) (ha as h ρE ρ M _ Ξ er m ((pv_bind p).imp fun as1 u h1 pre q r M1 r1 m1 => ?_))
  refine hb as1 h1 ρE ρ M1 _ Ξ (er.mono pre) m1 ((pv_bind q).imp fun as2 w h2 pre2 q2 r2 M2 rr2 m2 => ?_)
  obtain ⟨b, e, q3⟩ := cmp_bool (pv_bind q2)
  refine cmp_ok (mg := X.mg) (ξ := fun _ _ => True) (Φ := fun r M3 => ∃ kk, r = .d (.bool kk) ∧ _) ?_ x.un m2 (r1.mono pre2) rr2
  rw [e]
  intro as3 pre3 r3 M3 rr3 m3
  cases rr3
  have q3 := q3 as3 pre3
  refine ⟨b, rfl, fun hb => ?_, fun hb => ?_⟩
  · subst hb
    refine hd as3 h2 ρE ρ M3 _ Ξ (er.mono (pre.trans (pre2.trans pre3))) m3 ((pv_bind q3).imp fun as4 z h4 pre4 q4 r4 M4 rr4 m4 => ?_)
    obtain ⟨b, e, q5⟩ := cmp_bool q4
    refine cmp_ok (mg := X.mg) (ξ := fun _ _ => True) (Φ := fun r M3 => ∃ c, r = .d (.bool c) ∧ Ψ c M3) ?_ x.un m4 (rr2.mono (pre3.trans pre4)) rr4
    rw [e]
    intro as6 pre6 r6 M6 rr6 m6
    cases rr6
    have := q5 as6 pre6
    exact ⟨b, rfl, this as6 List.prefix_rfl M6 m6⟩
  · subst hb
    have := q3 as3 List.prefix_rfl
    exact this as3 List.prefix_rfl M3 m3
theorem so_notT {a : Expr} {pos : Pos} {va : E} (ha : SoT X C a va) : SoT X C (.UnaryOp .Not a pos) (.not va) := fun as h ρE ρ M Ψ Ξ er m p => by
  rw [tv] at p
  exact gt_not (ha as h ρE ρ M _ Ξ er m ((pv_bind p).imp fun as1 b h1 pre q M1 m1 => q as1 List.prefix_rfl M1 m1))
theorem so_not {a : Expr} {pos : Pos} {va : E} (ha : SoE X C a va) : SoE X C (.UnaryOp .Not a pos) (.not va) := fun as h ρE ρ M Φ Ξ er m p => by
  rw [ev] at p
  refine ge_not (ha as h ρE ρ M _ Ξ er m ((pv_bind p).imp fun as1 u h1 pre q r M1 r1 m1 => ?_))
  cases r1 with
  | bl b => exact ⟨b, rfl, post_val q m1 (.bl _)⟩
  | _ => exact q.elim
theorem so_neg {a : Expr} {pos : Pos} {va : E} (ha : SoE X C a va) : SoE X C (.UnaryOp .USub a pos) (.neg va) := fun as h ρE ρ M Φ Ξ er m p => by
  rw [ev] at p
  refine ge_neg (ha as h ρE ρ M _ Ξ er m ((pv_bind p).imp fun as1 u h1 pre q r M1 r1 m1 => ?_))
  cases r1 with
  | int b => exact ⟨b, rfl, post_val q m1 (.int _)⟩
  | _ => exact q.elim
theorem so_ite {t a b : Expr} {pos : Pos} {vt va vb : E} (ht : SoT X C t vt) (ha : SoE X C a va) (hb : SoE X C b vb) : SoE X C (.IfExp t a b pos) (.ite vt va vb) := fun as h ρE ρ M Φ Ξ er m p => by
  rw [ev] at p
  refine ge_if (ht as h ρE ρ M _ Ξ er m ((pv_bind p).imp fun as1 u h1 pre q M1 m1 => ⟨fun e => ?_, fun e => ?_⟩))
  · subst e; exact ha as1 h1 ρE ρ M1 Φ Ξ (er.mono pre) m1 q
  · subst e; exact hb as1 h1 ρE ρ M1 Φ Ξ (er.mono pre) m1 q
/-! and, or -/
theorem so_and (x : Ctx X c C k) {pos : Pos} : ∀ (es : List Expr), (∀ e ∈ es, SoE X C e (cE c e).v) → SoE X C (.BoolOp .And es pos) (cAnd c es)
  | [], _ => by rw [cAnd]; exact so_stop
  | [a], h => by rw [cAnd]; exact fun as h' ρE ρ M Φ Ξ er m p => ge_one (h a (by simp) as h' ρE ρ M Φ Ξ er m p)
  | a :: b :: es, h => by
    rw [cAnd]
    intro as h' ρE ρ M Φ Ξ er m p
    rw [ev] at p
    refine ge_and (h a (by simp) as h' ρE ρ M _ Ξ er m ((pv_bind p).imp fun as1 u h1 pre q r M1 r1 m1 => ?_))
    cases r1 with
    | bl b =>
      refine ⟨b, rfl, fun e => ?_, fun e => ?_⟩
      · subst e; exact so_and x (b :: es) (fun e he => h e (List.mem_cons_of_mem _ he)) as1 h1 ρE ρ M1 Φ Ξ (er.mono pre) m1 q
      · subst e; exact post_val q m1 (.bl _)
    | _ => exact q.elim
theorem so_or (x : Ctx X c C k) {pos : Pos} : ∀ (es : List Expr), (∀ e ∈ es, SoE X C e (cE c e).v) → SoE X C (.BoolOp .Or es pos) (cOr c es)
  | [], _ => by rw [cOr]; exact so_stop
  | [a], h => by rw [cOr]; exact fun as h' ρE ρ M Φ Ξ er m p => ge_one (h a (by simp) as h' ρE ρ M Φ Ξ er m p)
  | a :: b :: es, h => by
    rw [cOr]
    intro as h' ρE ρ M Φ Ξ er m p
    rw [ev] at p
    refine ge_or (h a (by simp) as h' ρE ρ M _ Ξ er m ((pv_bind p).imp fun as1 u h1 pre q r M1 r1 m1 => ?_))
    cases r1 with
    | bl b =>
      refine ⟨b, rfl, fun e => ?_, fun e => ?_⟩
      · subst e; exact so_or x (b :: es) (fun e he => h e (List.mem_cons_of_mem _ he)) as1 h1 ρE ρ M1 Φ Ξ (er.mono pre) m1 q
      · subst e; exact post_val q m1 (.bl _)
    | _ => exact q.elim
def SoW (X : Cx) (C : Str → List Vl → Mm → R Vl) (e : Expr) (v : E) : Prop :=
  ∀ as h ρE ρ M (Ψ : Bool → Mem → Prop) (Ξ : Xi), ERel as ρE ρ → MOk as h M → PV X.mg as (tv C v ρE h) (QT Ψ) (XI ρ Ξ) → GW X e ρ M Ψ Ξ
theorem so_andW (x : Ctx X c C k) {pos : Pos} : ∀ (es : List Expr), (∀ e ∈ es, SoT X C e (cE c e).t) → SoW X C (.BoolOp .And es pos) (cAndT c es)
  | [], _ => by rw [cAndT]; exact fun _ _ _ _ _ _ _ _ _ p => p.elim
  | [a], h => by rw [cAndT]; exact fun as h' ρE ρ M Φ Ξ er m p => gw_and1 (h a (by simp) as h' ρE ρ M Φ Ξ er m p)
  | a :: b :: es, h => by
    rw [cAndT]
    intro as h' ρE ρ M Φ Ξ er m p
    rw [tv] at p
    refine gw_and (h a (by simp) as h' ρE ρ M _ Ξ er m ((pv_bind p).imp fun as1 u h1 pre q M1 m1 => ⟨fun e => ?_, fun e => ?_⟩))
    · subst e; exact so_andW x (b :: es) (fun e he => h e (List.mem_cons_of_mem _ he)) as1 h1 ρE ρ M1 Φ Ξ (er.mono pre) m1 q
    · subst e; exact q as1 List.prefix_rfl M1 m1
theorem so_orW (x : Ctx X c C k) {pos : Pos} : ∀ (es : List Expr), (∀ e ∈ es, SoT X C e (cE c e).t) → SoW X C (.BoolOp .Or es pos) (cOrT c es)
  | [], _ => by rw [cOrT]; exact fun _ _ _ _ _ _ _ _ _ p => p.elim
  | [a], h => by rw [cOrT]; exact fun as h' ρE ρ M Φ Ξ er m p => gw_or1 (h a (by simp) as h' ρE ρ M Φ Ξ er m p)
  | a :: b :: es, h => by
    rw [cOrT]
    intro as h' ρE ρ M Φ Ξ er m p
    rw [tv] at p
    refine gw_or (h a (by simp) as h' ρE ρ M _ Ξ er m ((pv_bind p).imp fun as1 u h1 pre q M1 m1 => ⟨fun e => ?_, fun e => ?_⟩))
    · subst e; exact so_orW x (b :: es) (fun e he => h e (List.mem_cons_of_mem _ he)) as1 h1 ρE ρ M1 Φ Ξ (er.mono pre) m1 q
    · subst e; exact q as1 List.prefix_rfl M1 m1
/-! lists of arguments -/
theorem so_args (x : Ctx X c C k) : ∀ (es : List Expr), es.all notStar = true → (∀ e ∈ es, SoE X C e (cE c e).v) → ∀ as h ρE ρ M (Ψ : List Rv → Mem → Prop) (Ξ : Xi), ERel as ρE ρ → MOk as h M → PV X.mg as (evs C (cEs c es) ρE h) (QL Ψ) (XI ρ Ξ) → GA X es ρ M Ψ Ξ
  | [], _, _, as, h, ρE, ρ, M, Ψ, Ξ, er, m, p => by rw [cEs, evs] at p; exact ga_nil (p as List.prefix_rfl [] M .nil m)
  | e :: es, hn, hs, as, h, ρE, ρ, M, Ψ, Ξ, er, m, p => by
    rw [List.all_cons, Bool.and_eq_true] at hn
    rw [cEs, evs] at p
    refine ga_cons (star_cons hn.1) (hs e (by simp) as h ρE ρ M _ Ξ er m ((pv_bind p).imp fun as1 u h1 pre q r M1 r1 m1 => ?_))
    refine so_args x es hn.2 (fun e he => hs e (List.mem_cons_of_mem _ he)) as1 h1 ρE ρ M1 _ Ξ (er.mono pre) m1 ((pv_bind q).imp fun as2 us h2 pre2 q2 rs M2 rl m2 => ?_)
    exact q2 as2 List.prefix_rfl _ M2 (.cons (r1.mono pre2) rl) m2
theorem so_tup (x : Ctx X c C k) {es : List Expr} {kk : Nat} {pos : Pos} (hn : es.all notStar = true) (hs : ∀ e ∈ es, SoE X C e (cE c e).v) : SoE X C (.Tuple es kk pos) (.tup (cEs c es)) := fun as h ρE ρ M Φ Ξ er m p => by
  rw [ev] at p
  refine ge_tupR (so_args x es hn hs as h ρE ρ M _ Ξ er m ((pv_bind p).imp fun as1 us h1 pre q rs M1 rl m1 => ?_))
  split at q
  · rename_i hz; exact ⟨by rw [← rl.len]; exact hz, post_val q m1 (.tup rl)⟩
  · exact q.elim
theorem so_lst (x : Ctx X c C k) {es : List Expr} {pos : Pos} (hn : es.all notStar = true) (hs : ∀ e ∈ es, SoE X C e (cE c e).v) : SoE X C (.List es pos) (.lst (cEs c es)) := fun as h ρE ρ M Φ Ξ er m p => by
  rw [ev] at p
  refine ge_own (so_args x es hn hs as h ρE ρ M _ Ξ er m ((pv_bind p).imp fun as1 us h1 pre q rs M1 rl m1 => ?_))
  split at q
  · rename_i hz; exact ⟨by rw [← rl.len]; exact hz, post_new q m1 rl⟩
  · exact q.elim
theorem so_ix {a b : Expr} {pos : Pos} {va vb : E} (hb1 : notSlice b = true) (ha : SoE X C a va) (hb : SoE X C b vb) : SoE X C (.Subscript a b pos) (.ix va vb) := fun as h ρE ρ M Φ Ξ er m p => by
  rw [ev] at p
  refine ge_ix (plainIx hb1) (ha as h ρE ρ M _ Ξ er m ((pv_bind p).imp fun as1 u h1 pre q r M1 r1 m1 => ?_))
  refine hb as1 h1 ρE ρ M1 _ Ξ (er.mono pre) m1 ((pv_bind q).imp fun as2 w h2 pre2 q2 r2 M2 rr2 m2 => ?_)
  exact ix_ok q2 m2 (r1.mono pre2) rr2
/-! slices -/
theorem rvAll_cut {K : Frg} {B : Hp} {xs : List V} {rs : List Rv} (h : RvAll K B xs rs) (a n : Nat) : RvAll K B ((xs.drop a).take n) ((rs.drop a).take n) := by
  have hd : ∀ (a : Nat) {xs : List V} {ds : List Rv}, RvAll K B xs ds → RvAll K B (xs.drop a) (ds.drop a) := by
    intro a
    induction a with
    | zero => intro xs ds h; exact h
    | succ a ih => intro xs ds h; cases h with
      | nil => exact .nil
      | cons _ t => exact ih t
  have ht : ∀ (n : Nat) {xs : List V} {ds : List Rv}, RvAll K B xs ds → RvAll K B (xs.take n) (ds.take n) := by
    intro n
    induction n with
    | zero => intro xs ds h; exact .nil
    | succ n ih => intro xs ds h; cases h with
      | nil => exact .nil
      | cons h t => exact .cons h (ih t)
  exact ht n (hd a h)
theorem ge_sliceW {e : Expr} {lo hi : Option Expr} {pos p2 : Pos} {ρ : List Rv} {M : Mem} {Φ : Pst} {Ξ : Xi} (h : GE X e ρ M (fun x M1 => GO X lo ρ M1 (fun l M2 => GO X hi ρ M2 (fun u M3 => ∃ rs, Lst x rs M3 ∧ ∀ p, Φ (.cell p) ((p, Is (Dl.cutD rs l u)) :: M3)) Ξ) Ξ) Ξ) : GE X (.Subscript e (.Slice lo hi none p2) pos) ρ M Φ Ξ := fun B H σ ok env tk =>
  eS_of (pe_slice sl_list pe_S po_S po_S) (one h ok env tk fun v H1 B1 M1 r o1 f1 q1 hb => pS_mono (hb B1 H1 σ o1 (env_mono f1.ex env) (tk_after tk f1)) fun l H2 ⟨B2, M2, o2, f2, hc⟩ =>
    pS_mono (hc B2 H2 σ o2 (env_mono (f1.trans f2).ex env) (tk_after tk (f1.trans f2))) fun u H3 ⟨B3, M3, o3, f3, rs, hl, k⟩ => by
      obtain ⟨a, vs, rfl, s1, t1⟩ := lst_sq o3 (rv_mono (f2.trans f3).ex q1) hl
      refine ⟨a, vs, rfl, s1, fun p hp => postE_after (f1.trans (f2.trans f3)) (post_own (P := Is (Dl.cutD rs l u)) o3 hp ?_ rfl (k p))⟩
      have z := rvAll_cut t1 (HT.sIx vs.length 0 l) (HT.sIx vs.length vs.length u - HT.sIx vs.length 0 l)
      unfold L2.cutV Dl.cutD
      rw [t1.length] at z ⊢
      exact z)
theorem lst_of {as : List Addr} {h : Mm} {M : Mem} {x : Vl} {r : Rv} {xs : List Vl} (m : MOk as h M) (hs : seqOf h x = some xs) (rx : Rel as x r) : ∃ rs, RelL as xs rs ∧ Lst r rs M := by
  obtain ⟨rs, rl⟩ := rel_of m hs rx
  exact ⟨rs, rl, still_one hs rx rl as h M List.prefix_rfl m (still_now hs)⟩
theorem so_opt (x : Ctx X c C k) {o : Option Expr} (hs : ∀ e, o = some e → SoE X C e (cE c e).v) : ∀ as h ρE ρ M (Ψ : Option Int → Mem → Prop) (Ξ : Xi), ERel as ρE ρ → MOk as h M → PV X.mg as (evo C (cO c o) ρE h) (fun as' l h' => ∀ M', MOk as' h' M' → Ψ l M') (XI ρ Ξ) → GO X o ρ M Ψ Ξ := by
  intro as h ρE ρ M Ψ Ξ er m p
  cases o with
  | none => rw [cO, evo] at p; exact go_none (p as List.prefix_rfl M m)
  | some e =>
    rw [cO, evo] at p
    refine go_some (hs e rfl as h ρE ρ M _ Ξ er m ((pv_bind p).imp fun as1 u h1 pre q r M1 r1 m1 => ?_))
    cases r1 with
    | int i => exact ⟨i, rfl, q as1 List.prefix_rfl M1 m1⟩
    | _ => exact q.elim
theorem ge_sliceZ {e : Expr} {lo hi : Option Expr} {pos p2 : Pos} {ρ : List Rv} {M : Mem} {Φ : Pst} {Ξ : Xi} (h : GE X e ρ M (fun x M1 => GO X lo ρ M1 (fun l M2 => GO X hi ρ M2 (fun u M3 => (∃ rs, Lst x rs M3 ∧ ∀ p, Φ (.cell p) ((p, Is (Dl.cutD rs l u)) :: M3)) ∨ ∃ ds, x = .d (.list ds) ∧ Φ (.d (.list (Dl.cutD ds l u))) M3) Ξ) Ξ) Ξ) : GE X (.Subscript e (.Slice lo hi none p2) pos) ρ M Φ Ξ := fun B H σ ok env tk =>
  eS_of (pe_slice sl_list pe_S po_S po_S) (one h ok env tk fun v H1 B1 M1 r o1 f1 q1 hb => pS_mono (hb B1 H1 σ o1 (env_mono f1.ex env) (tk_after tk f1)) fun l H2 ⟨B2, M2, o2, f2, hc⟩ =>
    pS_mono (hc B2 H2 σ o2 (env_mono (f1.trans f2).ex env) (tk_after tk (f1.trans f2))) fun u H3 ⟨B3, M3, o3, f3, z⟩ => by
      rcases z with ⟨rs, hl, k⟩ | ⟨ds, e, k⟩
      · obtain ⟨a, vs, rfl, s1, t1⟩ := lst_sq o3 (rv_mono (f2.trans f3).ex q1) hl
        refine ⟨a, vs, rfl, s1, fun p hp => postE_after (f1.trans (f2.trans f3)) (post_own (P := Is (Dl.cutD rs l u)) o3 hp ?_ rfl (k p))⟩
        have z := rvAll_cut t1 (HT.sIx vs.length 0 l) (HT.sIx vs.length vs.length u - HT.sIx vs.length 0 l)
        unfold L2.cutV Dl.cutD
        rw [t1.length] at z ⊢
        exact z
      · subst e
        cases q1 with
        | d q1 => cases q1 with
          | lst hs ha =>
            rename_i a xs
            have f23 := f2.trans f3
            refine ⟨a, xs, rfl, o3.ext.seq (f23.ex.seq hs), fun p hp => postE_after (f1.trans f23) (post_frz o3 hp (.d (.lst (.of upd_same) ?_)) k)⟩
            refine dpAll_mono (f23.ex.trans (same_new (sub_none o3.ext hp))) _ ?_
            have z := cut_dp ha (HT.sIx xs.length 0 l) (HT.sIx xs.length xs.length u - HT.sIx xs.length 0 l)
            unfold cutV Dl.cutD
            rw [DpAll.len ha] at z ⊢
            exact z)
theorem so_slice (x : Ctx X c C k) {a : Expr} {lo hi : Option Expr} {pos p2 : Pos} (ha : SoE X C a (cE c a).v) (h1 : ∀ e, lo = some e → SoE X C e (cE c e).v) (h2 : ∀ e, hi = some e → SoE X C e (cE c e).v) : SoE X C (.Subscript a (.Slice lo hi none p2) pos) (.slice (cE c a).v (cO c lo) (cO c hi)) := fun as h ρE ρ M Φ Ξ er m p => by
  rw [ev] at p
  refine ge_sliceZ (ha as h ρE ρ M _ Ξ er m ((pv_bind p).imp fun as1 u g1 pre q r M1 r1 m1 => ?_))
  refine so_opt x h1 as1 g1 ρE ρ M1 _ Ξ (er.mono pre) m1 ((pv_bind q).imp fun as2 l g2 pre2 q2 M2 m2 => ?_)
  refine so_opt x h2 as2 g2 ρE ρ M2 _ Ξ (er.mono (pre.trans pre2)) m2 ((pv_bind q2).imp fun as3 uu g3 pre3 q3 M3 m3 => ?_)
  simp only [sliceV] at q3
  split at q3
  · cases r1 with
    | lst pu => exact .inr ⟨_, rfl, post_val q3 m3 (.lst (pu.cut l uu))⟩
  · split at q3
    · rename_i xs hx
      obtain ⟨rs, rl, hl⟩ := lst_of m3 hx (r1.mono (pre2.trans pre3))
      exact .inl ⟨rs, hl, post_new q3 m3 (rl.cut l uu)⟩
    · exact q3.elim
/-! freezing -/
open Classical in
/-- what is known for good, when the cells of a memory will not change any more -/
noncomputable def Bz (B H : Hp) (Md : Mem) : Hp := fun a => if (∃ p ∈ Md, p.1 = a) then H a else B a
theorem bz_in {B H : Hp} {Md : Mem} {p : Addr × (List Rv → Prop)} (h : p ∈ Md) : Bz B H Md p.1 = H p.1 := by
  unfold Bz; rw [if_pos ⟨p, h, rfl⟩]
theorem bz_out {B H : Hp} {Md : Mem} {a : Addr} (h : ∀ p ∈ Md, p.1 ≠ a) : Bz B H Md a = B a := by
  unfold Bz; rw [if_neg fun ⟨p, hp, e⟩ => h p hp e]
theorem bz_same {K : Frg} {B H : Hp} {Md Mk : Mem} (ok : Ok K B H (Md ++ Mk)) : Same B (Bz B H Md) := fun a u e => by
  by_cases hc : ∃ p ∈ Md, p.1 = a
  · obtain ⟨p, hp, rfl⟩ := hc
    rw [(ok.mem p (List.mem_append_left _ hp)).1] at e; cases e
  · rw [bz_out fun p hp e2 => hc ⟨p, hp, e2⟩]; exact e
theorem bz_ok {K : Frg} {B H : Hp} {Md Mk : Mem} (ok : Ok K B H (Md ++ Mk)) : Ok K (Bz B H Md) H Mk ∧ Fr B H (Md ++ Mk) (Bz B H Md) H Mk := by
  have nd := ok.nd
  rw [List.map_append] at nd
  have n1 := List.nodup_append.mp nd
  have ne : ∀ q ∈ Mk, ∀ p ∈ Md, p.1 ≠ q.1 := fun q hq p hp e => n1.2.2 p.1 (List.mem_map.mpr ⟨p, hp, rfl⟩) q.1 (List.mem_map.mpr ⟨q, hq, rfl⟩) e
  refine ⟨⟨fun x u e => ?_, fun q hq => ?_, n1.2.1⟩, ⟨bz_same ok, fun x u h b hn => ⟨h, ?_⟩, fun q hq => .inl ⟨q, List.mem_append_right _ hq, rfl⟩, fun x h => h⟩⟩
  · by_cases hc : ∃ p ∈ Md, p.1 = x
    · obtain ⟨p, hp, rfl⟩ := hc
      rw [bz_in hp] at e; exact e
    · rw [bz_out fun p hp e2 => hc ⟨p, hp, e2⟩] at e; exact ok.ext x u e
  · obtain ⟨h1, xs, rs, h2, h3, h4⟩ := ok.mem q (List.mem_append_right _ hq)
    exact ⟨by rw [bz_out (ne q hq)]; exact h1, xs, rs, h2, rvAll_mono (bz_same ok) h3, h4⟩
  · rw [bz_out fun p hp e => hn p (List.mem_append_left _ hp) e]; exact b
/-- what freezes in a memory: the value is this data then -/
def FzOk (M Md : Mem) (r : Rv) (d : PyData) : Prop := ∀ (K : Frg) (B H : Hp) (v : V), Ok K B H M → RvOk K B v r → Dp K (Bz B H Md) v d
def FzOkL (M Md : Mem) (r : List Rv) (d : List PyData) : Prop := ∀ (K : Frg) (B H : Hp) (v : List V), Ok K B H M → RvAll K B v r → DpAll K (Bz B H Md) v d
theorem ge_frz {e : Expr} {ρ : List Rv} {M : Mem} {Φ : Pst} {Ξ : Xi} (h : GE X e ρ M (fun r M1 => ∃ Md Mk d r', M1 = Md ++ Mk ∧ FzOk M1 Md r d ∧ (∀ (K : Frg) (B : Hp) (v : V), Dp K B v d → RvOk K B v r') ∧ Φ r' Mk) Ξ) : GE X e ρ M Φ Ξ := fun B H σ ok env tk =>
  eS_mono (h B H σ ok env tk) fun v H1 ⟨B1, M1, r, o1, f1, q1, Md, Mk, d, r', e1, hf, hu, k⟩ => by
    subst e1
    exact ⟨Bz B1 H1 Md, Mk, r', (bz_ok o1).1, f1.trans (bz_ok o1).2, hu _ _ _ (hf _ _ _ _ o1 q1), k⟩
theorem fzL_ok {as : List Addr} {Md Mk : Mem} {f : Vl → Option Vl} (hf : ∀ {x y : Vl} {r : Rv}, f x = some y → Rel as x r → ∃ d, Pur y d ∧ FzOk (Md ++ Mk) Md r d) : ∀ {xs ys : List Vl} {rs : List Rv}, fzL f xs = some ys → RelL as xs rs → ∃ ds, PurL ys ds ∧ FzOkL (Md ++ Mk) Md rs ds
  | _, _, _, e, .nil => by simp [fzL] at e; subst e; exact ⟨[], .nil, fun K B H v _ q => by cases q; exact .nil⟩
  | x :: xs, _, _, e, .cons a b => by
    simp only [fzL] at e
    split at e
    · rename_i y ys h1 h2
      cases e
      obtain ⟨d, p1, p2⟩ := hf h1 a
      obtain ⟨ds, q1, q2⟩ := fzL_ok hf h2 b
      exact ⟨d :: ds, .cons p1 q1, fun K B H v ok q => by cases q with | cons a b => exact .cons (p2 _ _ _ _ ok a) (q2 _ _ _ _ ok b)⟩
    · cases e
theorem pur_of {M Md Mk : Mem} {x : Vl} {d : PyData} (e : M = Md ++ Mk) (p : Pur x d) : ∃ d', Pur x d' ∧ FzOk M Md (.d d) d' := ⟨d, p, fun K B H v ok q => by
  subst e; cases q with | d q => exact dp_mono (bz_same ok) _ q⟩
mutual
theorem isP_ok {as : List Addr} : ∀ {x : Vl} {r : Rv}, isP x = true → Rel as x r → ∃ d, Pur x d ∧ ∀ (K : Frg) (B : Hp) (v : V), RvOk K B v r → Dp K B v d
  | _, _, _, .non => ⟨_, .non, fun _ _ _ q => by cases q with | d q => exact q⟩
  | _, _, _, .bl b => ⟨_, .bl b, fun _ _ _ q => by cases q with | d q => exact q⟩
  | _, _, _, .int b => ⟨_, .int b, fun _ _ _ q => by cases q with | d q => exact q⟩
  | _, _, _, .str b => ⟨_, .str b, fun _ _ _ q => by cases q with | d q => exact q⟩
  | _, _, _, .frz b => ⟨_, .frz b, fun _ _ _ q => by cases q with | d q => exact q⟩
  | _, _, _, .lst a => ⟨_, .lst a, fun _ _ _ q => by cases q with | d q => exact q⟩
  | _, _, h, .cell a => by simp [isP] at h
  | _, _, h, .tup a => by
    obtain ⟨ds, h1, h2⟩ := isPL_ok (by simpa [isP] using h) a
    exact ⟨_, .tup h1, fun K B v q => by cases q with | tup h a => exact .tup h (h2 K B _ a)⟩
theorem isPL_ok {as : List Addr} : ∀ {x : List Vl} {r : List Rv}, isPL x = true → RelL as x r → ∃ d, PurL x d ∧ ∀ (K : Frg) (B : Hp) (v : List V), RvAll K B v r → DpAll K B v d
  | _, _, _, .nil => ⟨_, .nil, fun _ _ _ q => by cases q; exact .nil⟩
  | _, _, h, .cons a b => by
    simp only [isPL, Bool.and_eq_true] at h
    obtain ⟨d, h1, h2⟩ := isP_ok h.1 a
    obtain ⟨ds, h3, h4⟩ := isPL_ok h.2 b
    exact ⟨_, .cons h1 h3, fun K B v q => by cases q with | cons q t => exact .cons (h2 _ _ _ q) (h4 _ _ _ t)⟩
end
theorem isP_fz {as : List Addr} {M Md Mk : Mem} {x : Vl} {r : Rv} (e0 : M = Md ++ Mk) (hp : isP x = true) (q : Rel as x r) : ∃ d, Pur x d ∧ FzOk M Md r d := by
  obtain ⟨d, h1, h2⟩ := isP_ok hp q
  exact ⟨d, h1, fun K B H v ok q => by subst e0; exact dp_mono (bz_same ok) _ (h2 _ _ _ q)⟩
theorem fz_s {n : Nat} {h : Mm} {k : Nat} {x : Vl} : fz n h (k + 1) x = if isP x = true then some x else match x with
    | .tup xs => (fzL (fz n h k) xs).map .tup
    | .cell c => if n ≤ c then match h[c]? with
      | some xs => (fzL (fz n h k) xs).map .lst
      | none => none
      else none
    | _ => none := rfl
theorem fz_ok {as : List Addr} {h : Mm} {M Md Mk : Mem} {n : Nat} (m : MOk as h M) (e0 : M = Md ++ Mk) (hn : ∀ (c : Nat) (a : Addr), n ≤ c → as[c]? = some a → ∃ p ∈ Md, p.1 = a) : ∀ (k : Nat) {x y : Vl} {r : Rv}, fz n h k x = some y → Rel as x r → ∃ d, Pur y d ∧ FzOk M Md r d := by
  intro k
  induction k with
  | zero =>
    intro x y r e q
    rw [fz] at e
    split at e
    · rename_i hp; cases e; exact isP_fz e0 hp q
    · cases e
  | succ k ih =>
    intro x y r e q
    rw [fz_s] at e
    split at e
    · rename_i hp; cases e; exact isP_fz e0 hp q
    cases q with
    | tup a =>
      dsimp only at e
      obtain ⟨ys, h1, h2⟩ := Option.map_eq_some_iff.mp e
      subst h2 e0
      obtain ⟨ds, p1, p2⟩ := fzL_ok (Md := Md) (Mk := Mk) (fun e q => ih e q) h1 a
      exact ⟨_, .tup p1, fun K B H v ok q => by cases q with | tup h b => exact .tup (sq_mono (bz_same ok) h) (p2 _ _ _ _ ok b)⟩
    | cell ec =>
      rename_i c a _
      dsimp only at e
      split at e
      · rename_i hc
        split at e
        · rename_i xs hx
          obtain ⟨ys, h1, h2⟩ := Option.map_eq_some_iff.mp e
          subst h2 e0
          obtain ⟨rs, r1, hm⟩ := m.get ec hx
          obtain ⟨ds, p1, p2⟩ := fzL_ok (Md := Md) (Mk := Mk) (fun e q => ih e q) h1 r1
          refine ⟨_, .lst p1, fun K B H v ok q => ?_⟩
          cases q
          obtain ⟨_, vs, rs', hH, ha, hP⟩ := ok.mem _ hm.mem
          have e2 : rs' = rs := hP
          subst e2
          obtain ⟨p, hp, ep⟩ := hn c a hc ec
          refine .lst (.of ?_) (p2 _ _ _ _ ok ha)
          rw [← ep, bz_in hp, ep]; exact hH
        · cases e
      · cases e
    | _ => cases e
theorem memOf_split : ∀ {as bs : List Addr} {rs qs : List (List Rv)}, as.length = rs.length → memOf (as ++ bs) (rs ++ qs) = memOf bs qs ++ memOf as rs
  | [], bs, [], qs, _ => by simp [memOf]
  | [], _, _ :: _, _, h => by simp at h
  | _ :: _, _, [], _, h => by simp at h
  | a :: as, bs, r :: rs, qs, h => by
    show memOf (as ++ bs) (rs ++ qs) ++ [(a, Is r)] = memOf bs qs ++ (memOf as rs ++ [(a, Is r)])
    rw [memOf_split (by simpa using h), List.append_assoc]
theorem memOf_has2 : ∀ {as : List Addr} {rows : List (List Rv)} {a : Addr}, as.length = rows.length → a ∈ as → ∃ p ∈ memOf as rows, p.1 = a
  | [], _, _, _, h => by cases h
  | _ :: _, [], _, h, _ => by simp at h
  | b :: as, r :: rows, a, h, hm => by
    rcases List.mem_cons.mp hm with rfl | hm
    · exact ⟨(a, Is r), by simp [memOf], rfl⟩
    · obtain ⟨p, h1, h2⟩ := memOf_has2 (rows := rows) (by simpa using h) hm
      exact ⟨p, by simp [memOf, h1], h2⟩
theorem RelLL.get2 {as : List Addr} : ∀ {x : List (List Vl)} {r : List (List Rv)} (i : Nat), RelLL as x r → i < x.length → ∃ v q, x[i]? = some v ∧ r[i]? = some q ∧ RelL as v q
  | _, _, i, .nil, h => by simp at h
  | _, _, 0, .cons a _, _ => ⟨_, _, rfl, rfl, a⟩
  | _, _, i + 1, .cons _ b, h => by
    obtain ⟨v, q, h1, h2, h3⟩ := RelLL.get2 i b (by simpa using h)
    exact ⟨v, q, by simpa using h1, by simpa using h2, h3⟩
theorem RelLL.mk {as : List Addr} : ∀ {x : List (List Vl)} {r : List (List Rv)}, x.length = r.length → (∀ (i : Nat) (v : List Vl) (q : List Rv), x[i]? = some v → r[i]? = some q → RelL as v q) → RelLL as x r
  | [], [], _, _ => .nil
  | [], _ :: _, h, _ => by simp at h
  | _ :: _, [], h, _ => by simp at h
  | x :: xs, r :: rs, h, k => .cons (k 0 x r rfl rfl) (RelLL.mk (by simpa using h) fun i v q h1 h2 => k (i + 1) v q (by simpa using h1) (by simpa using h2))
/-- the memory parted: what stood, what is new -/
theorem keep_ok {as as1 : List Addr} {h h1 : Mm} {M M1 : Mem} (pre : as <+: as1) (m : MOk as h M) (m1 : MOk as1 h1 M1) (kp : Keep h h1) : ∃ Md Mk, M1 = Md ++ Mk ∧ MOk as (h1.take h.length) Mk ∧ ∀ (c : Nat) (a : Addr), h.length ≤ c → as1[c]? = some a → ∃ p ∈ Md, p.1 = a := by
  obtain ⟨rows, r1, l1, e1⟩ := m
  obtain ⟨rows1, r2, l2, e2⟩ := m1
  obtain ⟨bs, rfl⟩ := pre
  have hl : as.length = h.length := by rw [l1, r1.len]
  have hl1 : rows1.length = as.length + bs.length := by rw [← l2, List.length_append]
  have er : rows1.take as.length ++ rows1.drop as.length = rows1 := List.take_append_drop _ _
  have lt : (rows1.take as.length).length = as.length := by rw [List.length_take]; omega
  have ld : (rows1.drop as.length).length = bs.length := by rw [List.length_drop]; omega
  refine ⟨memOf bs (rows1.drop as.length), memOf as (rows1.take as.length), ?_, ⟨rows1.take as.length, RelLL.mk ?_ ?_, lt.symm, rfl⟩, fun c a hc ha => ?_⟩
  · rw [e2]
    conv => lhs; rw [← er]
    exact memOf_split lt.symm
  · rw [List.length_take, List.length_take, ← hl, r2.len]
  · intro i v q hv hq
    have hi : i < h.length := by
      have := (List.getElem?_eq_some_iff.mp hq).1
      rw [lt] at this; omega
    rw [List.getElem?_take, if_pos hi] at hv
    rw [List.getElem?_take, if_pos (by omega)] at hq
    obtain ⟨q', g1, g2⟩ := r2.get i hv
    rw [hq] at g1; cases g1
    rcases kp.2 i hi with e | ⟨xs, ds, e, pu⟩
    · rw [hv] at e
      obtain ⟨q2, g3, g4⟩ := r1.get i e.symm
      cases (g4.mono (List.prefix_append as bs)).inj g2
      exact g4
    · rw [hv] at e; cases e
      exact RelL.pure pu g2
  · refine memOf_has2 ld.symm ?_
    rw [List.getElem?_append_right (by omega)] at ha
    exact List.mem_of_getElem? ha
/-- a run that freezes, by the run -/
theorem frz_post {mg : Mg} {as : List Addr} {h : Mm} {M : Mem} {Φ : Pst} {ξ : EV → Mem → Prop} {r : R Vl} (m : MOk as h M) (p : Post mg as (r.bind fun x h2 => frzV h h2 x) Φ ξ) :
    Post mg as r (fun r M1 => ∃ Md Mk d r', M1 = Md ++ Mk ∧ FzOk M1 Md r d ∧ (∀ (K : Frg) (B : Hp) (v : V), Dp K B v d → RvOk K B v r') ∧ Φ r' Mk) ξ := by
  cases r with
  | bad => exact p.elim
  | err z h1 => exact p
  | ok x h1 =>
    intro as1 pre r M1 rx m1
    simp only [R.bind, frzV] at p
    split at p
    · rename_i y hy
      split at p
      · rename_i kp
        obtain ⟨Md, Mk, e1, mk, hn⟩ := keep_ok pre m m1 kp
        obtain ⟨d, p1, p2⟩ := fz_ok m1 e1 hn 16 hy rx
        obtain ⟨r', u1, u2⟩ := p1.up as
        exact ⟨Md, Mk, d, r', e1, p2, u2, p as List.prefix_rfl r' Mk u1 mk⟩
      · exact p.elim
    · exact p.elim
theorem so_frz {e : Expr} {v : E} (he : SoE X C e v) : SoE X C e (.frz v) := fun as h ρE ρ M Φ Ξ er m p => by
  rw [ev] at p
  refine ge_frz (he as h ρE ρ M _ Ξ er m ?_)
  cases hv : ev C v ρE h with
  | bad => rw [hv] at p; exact p.elim
  | err z h1 => rw [hv] at p; exact p
  | ok x h1 =>
    rw [hv] at p
    intro as1 pre r M1 rx m1
    simp only [R.bind, frzV] at p
    split at p
    · rename_i y hy
      split at p
      · rename_i kp
        obtain ⟨Md, Mk, e1, mk, hn⟩ := keep_ok pre m m1 kp
        obtain ⟨d, p1, p2⟩ := fz_ok m1 e1 hn 16 hy rx
        obtain ⟨r', u1, u2⟩ := p1.up as
        exact ⟨Md, Mk, d, r', e1, p2, u2, p as List.prefix_rfl r' Mk u1 mk⟩
      · exact p.elim
    · exact p.elim
theorem ge_lstF {es : List Expr} {pos : Pos} {ρ : List Rv} {M : Mem} {Φ : Pst} {Ξ : Xi} (h : GA X es ρ M (fun rs M1 => ∃ ds : List PyData, (∀ (K : Frg) (B : Hp) (v : List V), RvAll K B v rs → DpAll K B v ds) ∧ ds.length ≤ sizeLine ∧ Φ (.d (.list ds)) M1) Ξ) : GE X (.List es pos) ρ M Φ Ξ :=
  fun B H σ ok env tk => eS_of (pe_lst pa_S) (args h ok env tk fun vs H1 B1 M1 rs o1 f1 q1 ⟨ds, hd, z, k⟩ => by
    have q2 := hd _ _ _ q1
    refine ⟨by rw [DpAll.len q2]; exact z, fun p hp => postE_after f1 (post_frz o1 hp (.d (.lst (.of upd_same) (dpAll_mono (same_new (sub_none o1.ext hp)) _ q2))) k)⟩)
theorem ge_lstG {es : List Expr} {pos : Pos} {ρ : List Rv} {M : Mem} {Φ : Pst} {Ξ : Xi} (h : GA X es ρ M (fun rs M1 => (∃ ds : List PyData, (∀ (K : Frg) (B : Hp) (v : List V), RvAll K B v rs → DpAll K B v ds) ∧ ds.length ≤ sizeLine ∧ Φ (.d (.list ds)) M1) ∨ (rs.length ≤ sizeLine ∧ ∀ p, Φ (.cell p) ((p, Is rs) :: M1))) Ξ) : GE X (.List es pos) ρ M Φ Ξ :=
  fun B H σ ok env tk => eS_of (pe_lst pa_S) (args h ok env tk fun vs H1 B1 M1 rs o1 f1 q1 z => by
    rcases z with ⟨ds, hd, z, k⟩ | ⟨z, k⟩
    · have q2 := hd _ _ _ q1
      refine ⟨by rw [DpAll.len q2]; exact z, fun p hp => postE_after f1 (post_frz o1 hp (.d (.lst (.of upd_same) (dpAll_mono (same_new (sub_none o1.ext hp)) _ q2))) k)⟩
    · refine ⟨by rw [q1.length]; exact z, fun p hp => postE_after f1 (post_own (P := Is rs) o1 hp q1 rfl (k p))⟩)
theorem evs_len' {C : Str → List Vl → Mm → R Vl} : ∀ {es : List E} {ρE : Ev} {h h1 : Mm} {us : List Vl}, evs C es ρE h = .ok us h1 → us.length = es.length
  | [], ρE, h, h1, us, e => by rw [evs] at e; cases e; rfl
  | a :: es, ρE, h, h1, us, e => by
    rw [evs] at e
    cases e1 : ev C a ρE h with
    | ok v g =>
      rw [e1] at e
      simp only [R.bind] at e
      cases e2 : evs C es ρE g with
      | ok vs g2 => rw [e2] at e; simp only [R.bind] at e; cases e; rw [List.length_cons, List.length_cons, evs_len' e2]
      | err _ _ => rw [e2] at e; cases e
      | bad => rw [e2] at e; cases e
    | err _ _ => rw [e1] at e; cases e
    | bad => rw [e1] at e; cases e
theorem so_fls (x : Ctx X c C k) {es : List Expr} {pos : Pos} (hn : es.all notStar = true) (hl : (cEs c es).length ≤ 1000) (hs : ∀ e ∈ es, SoE X C e (cE c e).v) : SoE X C (.List es pos) (.fls (cEs c es)) := fun as h ρE ρ M Φ Ξ er m p => by
  rw [ev] at p
  refine ge_lstG (so_args x es hn hs as h ρE ρ M _ Ξ er m ?_)
  cases ee : evs C (cEs c es) ρE h with
  | bad => rw [ee] at p; exact p.elim
  | err z g => rw [ee] at p; exact p
  | ok us h1 =>
    rw [ee] at p
    intro as1 pre rs M1 rl m1
    have q := p
    simp only [R.bind] at q
    split at q
    · rename_i hp
      obtain ⟨ds, p1, p2⟩ := isPL_ok hp rl
      refine .inl ⟨ds, p2, ?_, q as1 pre _ M1 (.lst p1) m1⟩
      rw [← p1.len, evs_len' ee]
      exact Nat.le_trans hl (by decide)
    · refine .inr ⟨by rw [← rl.len, evs_len' ee]; exact Nat.le_trans hl (by decide), post_new (q |> fun z => (show Post X.mg as1 (.ok (.cell h1.length) (h1 ++ [us])) Φ (XI ρ Ξ) from PV.mono pre z)) m1 rl⟩
theorem so_fl (x : Ctx X c C k) {es : List Expr} {pos : Pos} (hn : es.all notStar = true) (hs : ∀ e ∈ es, SoE X C e (cE c e).v) : SoE X C (.List es pos) (c.fl (cEs c es)) := by
  unfold Cc.fl
  split
  · rename_i h
    rw [Bool.and_eq_true, decide_eq_true_eq] at h
    exact so_fls x hn h.2 hs
  · exact so_lst x hn hs
theorem so_fz {e : Expr} {v : E} (he : SoE X C e v) : SoE X C e (c.fz v) := by
  unfold Cc.fz
  split
  · exact so_frz he
  · exact he
/-! append -/
theorem so_app {o e : Expr} {p1 p2 : Pos} {vo ve : E} (hp : plainB o = true) (hn : notStar e = true) (hl : (p1.endLine == p2.line) = true) (ho : SoE X C o vo) (he : SoE X C e ve) : SoE X C (.Call (.Attribute o "append" p1) [e] [] p2) (.app vo ve) := fun as h ρE ρ M Φ Ξ er m p => by
  rw [ev] at p
  have st : starEach [e] X.env = (false, eval e X.env) :: starEach [] X.env := star_cons hn
  refine append_at (attr_no hp) (by rw [st]; rfl) hl st rfl (ho as h ρE ρ M _ Ξ er m ((pv_bind p).imp fun as1 u h1 pre q r M1 r1 m1 => ?_))
  cases r1 with
  | cell ec =>
    rename_i n a
    have hl : n < h1.length := by rw [← m1.len]; exact (List.getElem?_eq_some_iff.mp ec).1
    obtain ⟨rs, rl, hm⟩ := m1.get ec (List.getElem?_eq_getElem hl)
    refine ⟨a, _, rfl, hm, he as1 h1 ρE ρ M1 _ Ξ (er.mono pre) m1 ((pv_bind q).imp fun as2 w h2 pre2 q2 r2 M2 rr2 m2 => ?_)⟩
    simp only [appV] at q2
    split at q2
    · rename_i xs hx
      split at q2
      · rename_i hz
        obtain ⟨rs2, rl2, hm2⟩ := m2.get (pre_get pre2 ec) hx
        obtain ⟨M3, hc, m3⟩ := m2.set (pre_get pre2 ec) hx rl2 (rl2.app (.cons rr2 .nil))
        exact ⟨rs2, M3, hc, by rw [← rl2.len]; exact hz, q2 as2 List.prefix_rfl _ M3 .non m3⟩
      · exact q2.elim
    · exact q2.elim
  | _ => exact q.elim
end
end IR

set_option Elab.async false
set_option linter.all false
set_option maxRecDepth 100000
set_option maxHeartbeats 4000000
namespace IR
open PySem PySem.Spec PyProof.Rows L2 Dl
section
variable {X : Cx} {c : Cc} {C : Str → List Vl → Mm → R Vl} {k : Nat}
/-! ## calls -/
theorem pd_of {mg : Mg} {C : Str → List Vl → Mm → R Vl} {f : Str} {n : Nat} {as : List Addr} {h : Mm} {M : Mem} {vs : List Vl} {rs : List Rv} {Φ : Pst} {Ξ : EV → Mem → Prop} (ha : ∀ xs h, xs.length ≠ n → C f xs h = .bad) (rl : RelL as vs rs) (m : MOk as h M) (p : Post mg as (C f vs h) Φ Ξ) : pdI mg C f n rs M Φ Ξ := by
  refine ⟨?_, as, vs, h, rl, m, p⟩
  rw [← rl.len]
  by_cases e : vs.length = n
  · exact e
  · rw [ha vs h e] at p; exact p.elim
theorem so_call (x : Ctx X c C k) {f : Str} {e : Expr} {es : List Expr} {p1 p2 : Pos} {ps : List Str} {ords : List (List Str)} (hg : isGl c f = true) (hf : c.fns.lookup f = some (ps, ords)) (hn : (e :: es).all notStar = true) (hs : ∀ a ∈ e :: es, SoE X C a (cE c a).v) :
    SoE X C (.Call (.Name f p1) (e :: es) [] p2) (.call f ((cE c e).v :: cEs c es)) := fun as h ρE ρ M Φ Ξ er m p => by
  have hn' := hn
  rw [List.all_cons, Bool.and_eq_true] at hn'
  obtain ⟨Df, ar⟩ := x.fns f ps ords hf
  rw [ev] at p
  refine ge_call Df x.room x.gu (gl_of x hg).1 (star_cons hn'.1) (star_any hn'.2) ?_
  refine so_args x (e :: es) hn hs as h ρE ρ M _ Ξ er m ((pv_bind (by rw [cEs]; exact p)).imp fun as1 us h1 pre q rs M1 rl m1 => ?_)
  exact pd_of ar rl m1 q
theorem so_fcall (x : Ctx X c C k) {f : Str} {e : Expr} {es : List Expr} {p1 p2 : Pos} {ps : List Str} {ords : List (List Str)} (hg : isGl c f = true) (hf : c.fns.lookup f = some (ps, ords)) (hn : (e :: es).all notStar = true) (hs : ∀ a ∈ e :: es, SoE X C a (cE c a).v) :
    SoE X C (.Call (.Name f p1) (e :: es) [] p2) (.fcall f ((cE c e).v :: cEs c es)) := fun as h ρE ρ M Φ Ξ er m p => by
  have hn' := hn
  rw [List.all_cons, Bool.and_eq_true] at hn'
  obtain ⟨Df, ar⟩ := x.fns f ps ords hf
  rw [ev] at p
  refine ge_frz (ge_call Df x.room x.gu (gl_of x hg).1 (star_cons hn'.1) (star_any hn'.2) ?_)
  refine so_args x (e :: es) hn hs as h ρE ρ M _ Ξ er m ((pv_bind (by rw [cEs]; exact p)).imp fun as1 us h1 pre q rs M1 rl m1 => ?_)
  exact pd_of ar rl m1 (frz_post m1 q)
theorem so_kws (x : Ctx X c C k) : ∀ (ks : List Keyword), (∀ a ∈ ks, SoE X C a.value (cE c a.value).v) → ∀ as h ρE ρ M (Ψ : List Rv → Mem → Prop) (Ξ : Xi), ERel as ρE ρ → MOk as h M → PV X.mg as (evs C (cKs c ks) ρE h) (QL Ψ) (XI ρ Ξ) → GK X ks ρ M Ψ Ξ
  | [], _, as, h, ρE, ρ, M, Ψ, Ξ, er, m, p => by rw [cKs, evs] at p; exact gk_nil (p as List.prefix_rfl [] M .nil m)
  | ⟨nm, e, kp⟩ :: ks, hs, as, h, ρE, ρ, M, Ψ, Ξ, er, m, p => by
    rw [cKs, evs] at p
    refine gk_cons (hs _ (List.mem_cons_self ..) as h ρE ρ M _ Ξ er m ((pv_bind p).imp fun as1 u h1 pre q r M1 r1 m1 => ?_))
    refine so_kws x ks (fun e he => hs e (List.mem_cons_of_mem _ he)) as1 h1 ρE ρ M1 _ Ξ (er.mono pre) m1 ((pv_bind q).imp fun as2 us h2 pre2 q2 rs M2 rl m2 => ?_)
    exact q2 as2 List.prefix_rfl _ M2 (.cons (r1.mono pre2) rl) m2
theorem kw_facts {env : Env} {pos : Pos} : ∀ {ks : List Keyword} {ns : List Str}, kwNames ks = some ns → (backToKw pos (keywordEach ks env)).filterMap (·.1) = ns ∧ (backToKw pos (keywordEach ks env)).all (·.1.isSome) = true ∧ (backToKw pos (keywordEach ks env)).any (·.1.isNone) = false ∧ ks.length = ns.length
  | [], ns, h => by simp [kwNames] at h; subst h; exact ⟨rfl, rfl, rfl, rfl⟩
  | ⟨some a, e, kp⟩ :: ks, ns, h => by
    simp only [kwNames] at h
    obtain ⟨ns', h1, h2⟩ := Option.map_eq_some_iff.mp h
    subst h2
    obtain ⟨a1, a2, a3, a4⟩ := kw_facts (env := env) (pos := pos) h1
    refine ⟨?_, ?_, ?_, by simp [a4]⟩
    · show (backToKw pos ((some a, eval e env) :: keywordEach ks env)).filterMap (·.1) = _
      rw [← a1]; rfl
    · show (backToKw pos ((some a, eval e env) :: keywordEach ks env)).all (·.1.isSome) = true
      simpa [backToKw] using a2
    · show (backToKw pos ((some a, eval e env) :: keywordEach ks env)).any (·.1.isNone) = false
      simpa [backToKw] using a3
  | ⟨none, e, kp⟩ :: ks, ns, h => by simp [kwNames] at h
theorem lookup_idx {α : Type} {p : Str} : ∀ {ks : List Str} {ws : List α}, ws.length = ks.length → (ks.zip ws).lookup p = (idxOf p ks).bind fun i => ws[i]?
  | [], _, _ => by simp [idxOf]
  | y :: ys, [], h => by simp at h
  | y :: ys, w :: ws, h => by
    have ih := lookup_idx (p := p) (ks := ys) (ws := ws) (by simpa using h)
    rw [List.zip_cons_cons, List.lookup_cons, idxOf]
    by_cases e : y = p
    · subst e; simp
    · have e' : (p == y) = false := by simpa using fun z => e z.symm
      rw [e', if_neg e, ih]
      cases idxOf p ys <;> simp
theorem pick_perm {as : List Addr} {ks ps : List Str} {vs : List Vl} {rs : List Rv} (rl : RelL as vs rs) (hl : vs.length = ks.length) : RelL as ((permC ks ps).map fun i => vs.getD i .non) (pick ks ps rs) := by
  unfold permC pick
  induction ps with
  | nil => exact .nil
  | cons p ps ih =>
    rw [List.filterMap_cons, List.filterMap_cons]
    rw [lookup_idx (by rw [← rl.len]; exact hl)]
    cases hi : idxOf p ks with
    | none => simpa using ih
    | some i =>
      have hk := (List.getElem?_eq_some_iff.mp (idx_at hi)).1
      have hv : vs[i]? = some vs[i] := List.getElem?_eq_getElem (by omega)
      obtain ⟨q, h1, h2⟩ := rl.get i hv
      simp only [Option.bind_some, h1, List.map_cons]
      refine .cons ?_ ih
      rw [List.getD_eq_getElem?_getD, hv]; exact h2
theorem contains_mem {α : Type} [BEq α] [LawfulBEq α] {xs : List α} {a : α} (h : xs.contains a = true) : a ∈ xs := by simpa using h
theorem so_callk (x : Ctx X c C k) {f : Str} {kw : Keyword} {ks : List Keyword} {p1 p2 : Pos} {ps : List Str} {ords : List (List Str)} {ns : List Str} (hg : isGl c f = true) (hf : c.fns.lookup f = some (ps, ords)) (hk : kwNames (kw :: ks) = some ns) (ho : ords.contains ns = true) (hs : ∀ a ∈ kw :: ks, SoE X C a.value (cE c a.value).v) :
    SoE X C (.Call (.Name f p1) [] (kw :: ks) p2) (.callk f (cKs c (kw :: ks)) (permC ns ps)) := fun as h ρE ρ M Φ Ξ er m p => by
  obtain ⟨Df, ar⟩ := x.fns f ps ords hf
  obtain ⟨a1, a2, a3, a4⟩ := kw_facts (env := X.env) (pos := p2) hk
  rw [ev] at p
  refine ge_callK Df x.room x.gu (gl_of x hg).1 a1 (contains_mem ho) a2 (by rw [a3]; rfl) ?_
  have len : ∀ {as : List Addr} {ks : List Keyword} {ρE : Ev} {h h1 : Mm} {us : List Vl}, evs C (cKs c ks) ρE h = .ok us h1 → us.length = ks.length := by
    intro as ks
    induction ks with
    | nil => intro ρE h h1 us e; rw [cKs, evs] at e; cases e; rfl
    | cons a ks ih =>
      obtain ⟨nm, e0, kp⟩ := a
      intro ρE h h1 us e
      rw [cKs, evs] at e
      cases e1 : ev C (cE c e0).v ρE h with
      | ok v g =>
        rw [e1] at e
        simp only [R.bind] at e
        cases e2 : evs C (cKs c ks) ρE g with
        | ok vs g2 => rw [e2] at e; simp only [R.bind] at e; cases e; rw [List.length_cons, List.length_cons, ih e2]
        | err _ _ => rw [e2] at e; cases e
        | bad => rw [e2] at e; cases e
      | err _ _ => rw [e1] at e; cases e
      | bad => rw [e1] at e; cases e
  refine so_kws x (kw :: ks) hs as h ρE ρ M _ Ξ er m ?_
  have p := pv_bind p
  cases e : evs C (cKs c (kw :: ks)) ρE h with
  | bad => rw [e] at p; exact p.elim
  | err z g => rw [e] at p; exact p
  | ok us g =>
    have hl := len (as := as) e
    rw [e] at p
    intro as1 pre rs M1 rl m1
    have q := p as1 pre
    have hl2 : us.length = ns.length := hl.trans a4
    exact ⟨by rw [← rl.len]; exact hl2, pd_of ar (pick_perm rl hl2) m1 q⟩
theorem so_fcallk (x : Ctx X c C k) {f : Str} {kw : Keyword} {ks : List Keyword} {p1 p2 : Pos} {ps : List Str} {ords : List (List Str)} {ns : List Str} (hg : isGl c f = true) (hf : c.fns.lookup f = some (ps, ords)) (hk : kwNames (kw :: ks) = some ns) (ho : ords.contains ns = true) (hs : ∀ a ∈ kw :: ks, SoE X C a.value (cE c a.value).v) :
    SoE X C (.Call (.Name f p1) [] (kw :: ks) p2) (.fcallk f (cKs c (kw :: ks)) (permC ns ps)) := fun as h ρE ρ M Φ Ξ er m p => by
  obtain ⟨Df, ar⟩ := x.fns f ps ords hf
  obtain ⟨a1, a2, a3, a4⟩ := kw_facts (env := X.env) (pos := p2) hk
  rw [ev] at p
  refine ge_frz (ge_callK Df x.room x.gu (gl_of x hg).1 a1 (contains_mem ho) a2 (by rw [a3]; rfl) ?_)
  have len : ∀ {as : List Addr} {ks : List Keyword} {ρE : Ev} {h h1 : Mm} {us : List Vl}, evs C (cKs c ks) ρE h = .ok us h1 → us.length = ks.length := by
    intro as ks
    induction ks with
    | nil => intro ρE h h1 us e; rw [cKs, evs] at e; cases e; rfl
    | cons a ks ih =>
      obtain ⟨nm, e0, kp⟩ := a
      intro ρE h h1 us e
      rw [cKs, evs] at e
      cases e1 : ev C (cE c e0).v ρE h with
      | ok v g =>
        rw [e1] at e
        simp only [R.bind] at e
        cases e2 : evs C (cKs c ks) ρE g with
        | ok vs g2 => rw [e2] at e; simp only [R.bind] at e; cases e; rw [List.length_cons, List.length_cons, ih e2]
        | err _ _ => rw [e2] at e; cases e
        | bad => rw [e2] at e; cases e
      | err _ _ => rw [e1] at e; cases e
      | bad => rw [e1] at e; cases e
  refine so_kws x (kw :: ks) hs as h ρE ρ M _ Ξ er m ?_
  have p := pv_bind p
  cases e : evs C (cKs c (kw :: ks)) ρE h with
  | bad => rw [e] at p; exact p.elim
  | err z g => rw [e] at p; exact p
  | ok us g =>
    have hl := len (as := as) e
    rw [e] at p
    intro as1 pre rs M1 rl m1
    have q := p as1 pre
    have hl2 : us.length = ns.length := hl.trans a4
    exact ⟨by rw [← rl.len]; exact hl2, pd_of ar (pick_perm rl hl2) m1 (frz_post m1 q)⟩
/-! built-ins -/
theorem biC_nm {f : Str} {b : Bi} (h : biC f = some b) : f = b.nm := by
  unfold biC at h
  have := List.find?_some h
  exact (by simpa using this : b.nm = f).symm
theorem tyC_nm {f : Str} {b : IR.Ty} (h : tyC f = some b) : f = b.nm := by
  unfold tyC at h
  have := List.find?_some h
  exact (by simpa using this : b.nm = f).symm
theorem boot_bi (b : Bi) : bootBuiltins b.nm = some b.val := by
  cases b <;> first | exact PySem.boot_len | (simp only [Bi.nm, Bi.val]; decide +kernel)
theorem nm_ne (b : Bi) : b.nm ≠ "__name__" := by cases b <;> (simp only [Bi.nm]; decide)
theorem boot_ty (b : IR.Ty) : bootBuiltins b.nm = some (.type b.st) := by
  cases b <;> (simp only [Ty.nm, Ty.st]; decide +kernel)
theorem ty_ne (b : IR.Ty) : b.nm ≠ "__name__" := by cases b <;> (simp only [Ty.nm]; decide)
theorem useB_of (x : Ctx X c C k) {f : Str} (h : useB c f = true) : Gl X f ∧ (f == ("__debug__" : Str)) = false ∧ X.mg f = none := by
  unfold useB at h
  rw [Bool.and_eq_true] at h
  exact ⟨(gl_of x h.1).1, (gl_of x h.1).2, x.bts f (contains_mem h.2)⟩
theorem so_bi (x : Ctx X c C k) {f : Str} {b : Bi} {e : Expr} {es : List Expr} {p1 p2 : Pos} (hu : useB c f = true) (hb : biC f = some b) (hn : (e :: es).all notStar = true) (hs : ∀ a ∈ e :: es, SoE X C a (cE c a).v) :
    SoE X C (.Call (.Name f p1) (e :: es) [] p2) (.bi b ((cE c e).v :: cEs c es)) := fun as h ρE ρ M Φ Ξ er m p => by
  have hn' := hn
  rw [List.all_cons, Bool.and_eq_true] at hn'
  obtain ⟨g1, g2, g3⟩ := useB_of x hu
  have e1 := biC_nm hb
  subst e1
  rw [ev] at p
  have fin : GA X (e :: es) ρ M (fun rs M1 => GC X b.val rs M1 Φ) Ξ := by
    refine so_args x (e :: es) hn hs as h ρE ρ M _ Ξ er m ((pv_bind (by rw [cEs]; exact p)).imp fun as1 us h1 pre q rs M1 rl m1 => ?_)
    exact bi_ok q x.calm x.gu x.un m1 rl
  have bi : ∀ v, bootBuiltins b.nm = some v → Dl.Bi X b.nm v := fun v hv => ⟨g3, hv, nm_ne b, g2⟩
  have bb := boot_bi b
  cases b <;> first
    | exact ge_callB (bi _ bb) g1 (star_cons hn'.1) (star_any hn'.2) fin
    | exact ge_callTy (bi _ bb) g1 (star_cons hn'.1) (star_any hn'.2) fin
theorem so_isi (x : Ctx X c C k) {e : Expr} {t : IR.Ty} {p1 p2 p3 : Pos} {ve : E} (hu : useB c "isinstance" = true) (ht : useB c t.nm = true) (hn : notStar e = true) (he : SoE X C e ve) : SoE X C (.Call (.Name "isinstance" p1) [e, .Name t.nm p3] [] p2) (.isi ve t) := fun as h ρE ρ M Φ Ξ er m p => by
  obtain ⟨g1, g2, g3⟩ := useB_of x hu
  obtain ⟨t1, t2, t3⟩ := useB_of x ht
  rw [ev] at p
  have bi : Dl.Bi X "isinstance" (.builtin "isinstance") := ⟨g3, by decide +kernel, by decide, g2⟩
  have bt : Dl.Bi X t.nm (.type t.st) := ⟨t3, boot_ty t, ty_ne t, t2⟩
  refine ge_callB bi g1 (star_cons hn) rfl (ga_cons (star_cons hn) (he as h ρE ρ M _ Ξ er m ((pv_bind p).imp fun as1 u h1 pre q r M1 r1 m1 => ?_)))
  refine ga_cons rfl (ge_ty bt t1 (ga_nil ?_))
  exact isi_ok m1 r1 (post_val q m1 (.bl _))
/-! ## targets -/
def SoG (X : Cx) (vs : List Nat) (e : Expr) (t : Tg) : Prop := ∀ as x r ρE ρE' ρ M (Ψ : List Rv → Mem → Prop), Rel as x r → ERel as ρE ρ → asgT t x ρE = some ρE' → (∀ ρ', ERel as ρE' ρ' → Ψ ρ' M) → GG X e r ρ M Ψ vs
theorem tgs_star {c : Cc} : ∀ {ts : List Expr} {tgs : List Tg}, cTgs c ts = some tgs → ts.all notStar = true ∧ ts.length = tgs.length
  | [], _, h => by simp [cTgs] at h; subst h; exact ⟨rfl, rfl⟩
  | t :: ts, _, h => by
    rw [cTgs] at h
    split at h
    · rename_i a b h1 h2
      cases h
      have := tgs_star h2
      refine ⟨?_, by simp [this.2]⟩
      rw [List.all_cons, this.1, Bool.and_true]
      cases t <;> first | rfl | simp [cTg] at h1
    · cases h
theorem asg_len {env : Env} : ∀ {ts : List Expr}, ts.all notStar = true → (assignEach ts env).length = ts.length ∧ (assignEach ts env).findIdx? (·.1) = none
  | [], _ => ⟨rfl, rfl⟩
  | t :: ts, h => by
    rw [List.all_cons, Bool.and_eq_true] at h
    have := asg_len (env := env) h.2
    rw [asg_cons h.1]
    exact ⟨by simp [this.1], by simpa [List.findIdx?_cons] using this.2⟩
theorem asgTs_len : ∀ {ts : List Tg} {xs : List Vl} {ρ ρ' : Ev}, asgTs ts xs ρ = some ρ' → ts.length = xs.length
  | [], [], _, _, _ => rfl
  | [], _ :: _, _, _, h => by simp [asgTs] at h
  | _ :: _, [], _, _, h => by simp [asgTs] at h
  | t :: ts, x :: xs, ρ, ρ', h => by
    rw [asgTs] at h
    split at h
    · rename_i ρ1 h1; simp [asgTs_len h]
    · cases h
mutual
theorem so_tg (x : Ctx X c C k) : ∀ (e : Expr) (t : Tg), cTg c e = some t → SoG X c.vs e t
  | .Name n pos, t, h => by
    rw [cTg] at h
    obtain ⟨i, h1, h2⟩ := Option.map_eq_some_iff.mp h
    subst h2
    obtain ⟨a1, a2, a3, a4, _⟩ := slotW_of x h1
    intro as v r ρE ρE' ρ M Ψ rv er ea k
    rw [asgT] at ea
    cases ea
    exact gg_name x.nd a1 a2 a3 (a4.elim (fun z => .inl z.2) .inr) (k _ (ERel.set (.some rv) i er))
  | .Tuple ts kk pos, t, h => by
    rw [cTg] at h
    obtain ⟨tgs, h1, h2⟩ := Option.map_eq_some_iff.mp h
    subst h2
    obtain ⟨n1, n2⟩ := tgs_star h1
    obtain ⟨l1, l2⟩ := asg_len (env := X.env) n1
    intro as v r ρE ρE' ρ M Ψ rv er ea k
    cases rv with
    | tup rl =>
      rw [asgT] at ea
      exact gg_tup x.calm (.inl rfl) (by rw [l1, n2, asgTs_len ea, rl.len]) l2 (so_tgs x ts tgs h1 as _ _ ρE ρE' ρ M Ψ rl er ea k)
    | lst pu =>
      rw [asgT] at ea
      obtain ⟨rs, h3, h4⟩ := pu.up as
      exact gg_lstU x.calm h4 (by rw [l1, n2, asgTs_len ea, h3.len]) l2 (so_tgs x ts tgs h1 as _ _ ρE ρE' ρ M Ψ h3 er ea k)
    | _ => simp [asgT] at ea
  | .BoolOp .., _, h => by simp [cTg] at h
  | .NamedExpr .., _, h => by simp [cTg] at h
  | .BinOp .., _, h => by simp [cTg] at h
  | .UnaryOp .., _, h => by simp [cTg] at h
  | .Lambda .., _, h => by simp [cTg] at h
  | .IfExp .., _, h => by simp [cTg] at h
  | .Dict .., _, h => by simp [cTg] at h
  | .Set .., _, h => by simp [cTg] at h
  | .ListComp .., _, h => by simp [cTg] at h
  | .SetComp .., _, h => by simp [cTg] at h
  | .DictComp .., _, h => by simp [cTg] at h
  | .GeneratorExp .., _, h => by simp [cTg] at h
  | .Await .., _, h => by simp [cTg] at h
  | .Yield .., _, h => by simp [cTg] at h
  | .YieldFrom .., _, h => by simp [cTg] at h
  | .Compare .., _, h => by simp [cTg] at h
  | .Call .., _, h => by simp [cTg] at h
  | .FormattedValue .., _, h => by simp [cTg] at h
  | .JoinedStr .., _, h => by simp [cTg] at h
  | .Constant .., _, h => by simp [cTg] at h
  | .Attribute .., _, h => by simp [cTg] at h
  | .Subscript .., _, h => by simp [cTg] at h
  | .Starred .., _, h => by simp [cTg] at h
  | .List .., _, h => by simp [cTg] at h
  | .Slice .., _, h => by simp [cTg] at h
theorem so_tgs (x : Ctx X c C k) : ∀ (ts : List Expr) (tgs : List Tg), cTgs c ts = some tgs → ∀ as xs rs ρE ρE' ρ M (Ψ : List Rv → Mem → Prop), RelL as xs rs → ERel as ρE ρ → asgTs tgs xs ρE = some ρE' → (∀ ρ', ERel as ρE' ρ' → Ψ ρ' M) → GGs X ts rs ρ M Ψ c.vs
  | [], _, h, as, xs, rs, ρE, ρE', ρ, M, Ψ, rl, er, ea, k => by
    rw [cTgs] at h; cases h
    cases rl with
    | nil => simp [asgTs] at ea; subst ea; exact ggs_nil (k _ er)
    | cons _ _ => simp [asgTs] at ea
  | t :: ts, _, h, as, xs, rs, ρE, ρE', ρ, M, Ψ, rl, er, ea, k => by
    rw [cTgs] at h
    split at h
    · rename_i a b h1 h2
      cases h
      have hn : notStar t = true := by cases t <;> first | rfl | simp [cTg] at h1
      cases rl with
      | nil => simp [asgTs] at ea
      | cons rv rl =>
        rw [asgTs] at ea
        split at ea
        · rename_i ρ1 e1
          exact ggs_consG (by rw [asg_cons hn]; rfl) (so_tg x t a h1 as _ _ ρE ρ1 ρ M _ rv er e1 fun ρ' er' => so_tgs x ts b h2 as _ _ ρ1 ρE' ρ' M Ψ rl er' ea k)
        · cases ea
    · cases h
end
end
end IR

set_option Elab.async false
set_option linter.all false
set_option maxRecDepth 100000
set_option maxHeartbeats 4000000
namespace IR
open PySem PySem.Spec PyProof.Rows L2 Dl
section
variable {X : Cx} {c : Cc} {C : Str → List Vl → Mm → R Vl} {k : Nat}
/-! ## walks -/
theorem rng_rel {as : List Addr} (i : Int) (n : Nat) : RelL as (rngV i n) ((List.range n).map fun k => .d (.int (i + (k : Nat)))) := by
  unfold rngV
  generalize List.range n = l
  induction l with
  | nil => exact .nil
  | cons a l ih => exact .cons (.int _) ih
theorem so_rng1 (x : Ctx X c C k) {tg a : Expr} {p1 p2 : Pos} {va : E} (hu : useB c "range" = true) (hn : notStar a = true) (ha : SoE X C a va) : SoI X C tg (.Call (.Name "range" p1) [a] [] p2) (.rng1 va) := fun as h ρE ρ M Θ Ξ er m p => by
  obtain ⟨g1, g2, g3⟩ := useB_of x hu
  rw [evIt] at p
  refine gi_rng1W g3 g1 (star_cons hn) (ga_cons (star_cons hn) (ha as h ρE ρ M _ Ξ er m ((pv_bind p).imp fun as1 u h1 pre q r M1 r1 m1 => ga_nil ?_)))
  cases r1 with
  | int j =>
    simp only at q
    split at q
    · rename_i hs
      simp only [small, Bool.and_eq_true, decide_eq_true_eq] at hs
      exact ⟨j, rfl, hs.1, hs.2, q as1 List.prefix_rfl _ _ M1 (rng_rel 0 _) m1 fun _ _ _ _ _ _ => trivial⟩
    · exact q.elim
  | _ => exact q.elim
theorem so_rng2 (x : Ctx X c C k) {tg a b : Expr} {p1 p2 : Pos} {va vb : E} (hu : useB c "range" = true) (hn : notStar a = true) (hn2 : notStar b = true) (ha : SoE X C a va) (hb : SoE X C b vb) : SoI X C tg (.Call (.Name "range" p1) [a, b] [] p2) (.rng2 va vb) := fun as h ρE ρ M Θ Ξ er m p => by
  obtain ⟨g1, g2, g3⟩ := useB_of x hu
  rw [evIt] at p
  refine gi_rng2W g3 g1 (by rw [star_cons hn, star_cons hn2]; rfl) (star_cons hn2) (ga_cons (star_cons hn) (ha as h ρE ρ M _ Ξ er m ((pv_bind p).imp fun as1 u h1 pre q r M1 r1 m1 => ?_)))
  refine ga_cons (star_cons hn2) (hb as1 h1 ρE ρ M1 _ Ξ (er.mono pre) m1 ((pv_bind q).imp fun as2 u h2 pre2 q2 r2 M2 rr2 m2 => ga_nil ?_))
  cases r1 with
  | int i =>
    cases rr2 with
    | int j =>
      simp only at q2
      split at q2
      · rename_i hs
        simp only [small, Bool.and_eq_true, decide_eq_true_eq] at hs
        exact ⟨i, j, rfl, ⟨hs.1.1, hs.1.2, hs.2.1, hs.2.2⟩, q2 as2 List.prefix_rfl _ _ M2 (rng_rel i _) m2 fun _ _ _ _ _ _ => trivial⟩
      · exact q2.elim
    | _ => exact q2.elim
  | _ => exact q2.elim
theorem zip_rel {as : List Addr} : ∀ {xs ys : List Vl} {rs qs : List Rv}, RelL as xs rs → RelL as ys qs → RelL as (zipV xs ys) ((rs.zip qs).map fun p => .tup [p.1, p.2])
  | _, _, _, _, .nil, _ => .nil
  | _, _, _, _, .cons _ _, .nil => .nil
  | _, _, _, _, .cons a b, .cons a2 b2 => .cons (.tup (.cons a (.cons a2 .nil))) (zip_rel b b2)
theorem enum_rel {as : List Addr} : ∀ {xs : List Vl} {rs : List Rv} (n : Nat), RelL as xs rs → RelL as ((xs.zipIdx n).map fun p => .tup [.int (p.2 : Nat), p.1]) ((rs.zipIdx n).map fun p => .tup [.d (.int (p.2 : Nat)), p.1])
  | _, _, _, .nil => .nil
  | _, _, n, .cons a b => .cons (.tup (.cons (.int _) (.cons a .nil))) (enum_rel (n + 1) b)
theorem so_zip (x : Ctx X c C k) {ts : List Expr} {kk : Nat} {tp : Pos} {a b : Expr} {p1 p2 : Pos} {va vb : E} (hu : useB c "zip" = true) (hn : notStar a = true) (hn2 : notStar b = true) (ha : SoE X C a va) (hb : SoE X C b vb) : SoI X C (.Tuple ts kk tp) (.Call (.Name "zip" p1) [a, b] [] p2) (.zip va vb) := fun as h ρE ρ M Θ Ξ er m p => by
  obtain ⟨g1, g2, g3⟩ := useB_of x hu
  rw [evIt] at p
  refine gi_zipW g3 g1 (star_cons hn) (star_any (by simpa using hn2)) (ga_cons (star_cons hn) (ha as h ρE ρ M _ Ξ er m ((pv_bind p).imp fun as1 u h1 pre q r M1 r1 m1 => ?_)))
  refine ga_cons (star_cons hn2) (hb as1 h1 ρE ρ M1 _ Ξ (er.mono pre) m1 ((pv_bind q).imp fun as2 w h2 pre2 q2 r2 M2 rr2 m2 => ga_nil ?_))
  split at q2
  · rename_i xs ys hx hy
    have r1' := r1.mono pre2
    obtain ⟨rs, rl⟩ := rel_of m2 hx r1'
    obtain ⟨qs, ql⟩ := rel_of m2 hy rr2
    refine ⟨r, r2, rs, qs, rfl, still_one hx r1' rl as2 h2 M2 List.prefix_rfl m2 (still_now hx), still_one hy rr2 ql as2 h2 M2 List.prefix_rfl m2 (still_now hy), q2 as2 List.prefix_rfl _ _ M2 (zip_rel rl ql) m2 fun as3 h3 M3 pre3 m3 st => ?_⟩
    exact ⟨still_one hx r1' rl as3 h3 M3 pre3 m3 fun z hz => st z (List.mem_append_left _ hz), still_one hy rr2 ql as3 h3 M3 pre3 m3 fun z hz => st z (List.mem_append_right _ hz)⟩
  · exact q2.elim
theorem so_enum (x : Ctx X c C k) {ts : List Expr} {kk : Nat} {tp : Pos} {a : Expr} {p1 p2 : Pos} {va : E} (hu : useB c "enumerate" = true) (hn : notStar a = true) (ha : SoE X C a va) : SoI X C (.Tuple ts kk tp) (.Call (.Name "enumerate" p1) [a] [] p2) (.enum va) := fun as h ρE ρ M Θ Ξ er m p => by
  obtain ⟨g1, g2, g3⟩ := useB_of x hu
  rw [evIt] at p
  refine gi_enumW g3 g1 (star_cons hn) (ga_cons (star_cons hn) (ha as h ρE ρ M _ Ξ er m ((pv_bind p).imp fun as1 u h1 pre q r M1 r1 m1 => ga_nil ?_)))
  split at q
  · rename_i xs hx
    obtain ⟨rs, rl⟩ := rel_of m1 hx r1
    exact ⟨r, rs, rfl, still_one hx r1 rl as1 h1 M1 List.prefix_rfl m1 (still_now hx), q as1 List.prefix_rfl _ _ M1 (enum_rel 0 rl) m1 (still_one hx r1 rl)⟩
  · exact q.elim
/-! ## comprehensions -/
theorem comp_run {scope : Scope} {tg elt : Expr} {ifs : List Expr} {t : Tg} {vi : List E} {ve : E} {W : Watch} {S : Mem → Prop} {ρE : Ev} {ρ : List Rv} {Φ : Pst} {ξ : EV → Mem → Prop} {vs : List Nat}
    (hg : AllB X scope fun X1 => SoG X1 vs tg t) (hi : AllB X scope fun X1 => ∀ as h ρE ρ M (Ψ : Bool → Mem → Prop), ERel as ρE ρ → MOk as h M → PV X.mg as (tvL C vi ρE h) (QT Ψ) (fun _ _ => False) → GTs X1 ifs ρ M Ψ X0) (he : AllB X scope fun X1 => SoE X1 C elt ve) :
    ∀ (items acc : List Vl) (rs qs : List Rv) as h M, RelL as items rs → RelL as acc qs → MOk as h M → ERel as ρE ρ → (∀ as2 h2 M2, as <+: as2 → MOk as2 h2 M2 → Still W h2 → S M2) →
      PV X.mg as (lcV (fun ρ h => tvL C vi ρ h) (fun ρ h => ev C ve ρ h) t W (wipeE ρE vs) items acc h) (QV Φ) ξ → CompW X tg elt ifs scope vs ρ (Own Φ) S rs qs M := by
  intro items
  induction items with
  | nil =>
    intro acc rs qs as h M rl ql m er st p
    cases rl
    rw [lcV] at p
    split at p
    · rename_i hst
      exact ⟨st as h M List.prefix_rfl m hst, post_new p m ql⟩
    · exact p.elim
  | cons a items ih =>
    intro acc rs qs as h M rl ql m er st p
    cases rl with
    | cons ra rl =>
      rw [lcV] at p
      split at p
      · rename_i hst
        refine ⟨st as h M List.prefix_rfl m hst.1, by rw [← ql.len]; exact hst.2, fun s H Cc cl fp => ?_⟩
        split at p
        · exact p.elim
        · rename_i ρ1 e1
          refine hg s H Cc cl fp as a _ (wipeE ρE vs) ρ1 (wipeR ρ vs) M _ ra (er.wipe vs) e1 fun ρ' er' => fun s H Cc cl fp => ?_
          refine hi s H Cc cl fp as h ρ1 ρ' M _ er' m ?_
          cases ec : tvL C vi ρ1 h with
          | bad => rw [ec] at p; exact p.elim
          | err z g => rw [ec] at p; exact p.elim
          | ok b h1 =>
            rw [ec] at p
            intro as1 pre M1 m1
            refine ⟨fun eb => ?_, fun eb => ?_⟩
            · subst eb
              intro s H Cc cl fp
              refine he s H Cc cl fp as1 h1 ρ1 ρ' M1 _ X0 (er'.mono pre) m1 ?_
              cases ee : ev C ve ρ1 h1 with
              | bad => simp only [ee] at p; exact p.elim
              | err z g => simp only [ee] at p; exact p.elim
              | ok v h2 =>
                simp only [ee] at p
                intro as2 pre2 r2 M2 rr2 m2
                have pp := pre.trans pre2
                exact ih _ _ _ as2 h2 M2 (rl.mono pp) ((ql.mono pp).app (.cons rr2 .nil)) m2 (er.mono pp) (fun as3 h3 M3 pre3 => st as3 h3 M3 (pp.trans pre3)) (p.mono pp)
            · subst eb
              exact ih _ _ _ as1 h1 M1 (rl.mono pre) (ql.mono pre) m1 (er.mono pre) (fun as3 h3 M3 pre3 => st as3 h3 M3 (pre.trans pre3)) (p.mono pre)
      · exact p.elim
theorem so_lc (x : Ctx X c C k) {scope : Scope} {tg it elt : Expr} {ifs : List Expr} {t : Tg} {vit ve : E} {pos : Pos} (hb : blkC c.N c.sc scope (ownC c scope) = true) (ho : (ownC c scope).isEmpty = false) (hs : notSet it = true) (hl : ifs.length ≤ 1)
    (hit : SoI X C tg it vit) (hg : AllB X scope fun X1 => SoG X1 (blkOf c scope).vs tg t) (hi : ∀ e ∈ ifs, AllB X scope fun X1 => SoT X1 C e (cE (blkOf c scope) e).t) (he : AllB X scope fun X1 => SoE X1 C elt ve) :
    SoE X C (.ListComp elt [⟨tg, it, ifs, 0⟩] scope pos) (.lc t vit (cTs (blkOf c scope) ifs) ve ((ownC c scope).map (·.2))) := fun as h ρE ρ M Φ Ξ er m p => by
  rw [ev] at p
  have hown : ownC c scope ≠ [] := by
    intro e; rw [e] at ho; cases ho
  refine ge_lcW (ownC c scope) (F := Own Φ) (.inr rfl) hown x.calm x.nd (by rw [x.hN, x.sc]; exact blkOk_by hb) (fold_no hs _) ?_
  refine hit as h ρE ρ M _ Ξ er m ((pv_bind p).imp fun as1 w h1 pre q rs S M1 rl m1 st => ?_)
  refine comp_run (vs := (ownC c scope).map (·.2)) hg ?_ he w.1 [] rs [] as1 h1 M1 rl .nil m1 (er.mono pre) st q
  intro s H Cc cl fp as h ρE ρ M Ψ er m p
  match ifs, hl, hi, p with
  | [], _, _, p => rw [cTs, tvL] at p; exact p as List.prefix_rfl M m
  | [e], _, hi, p =>
    rw [cTs, cTs, tvL] at p
    refine hi e (by simp) s H Cc cl fp as h ρE ρ M Ψ X0 er m ?_
    cases et : tv C (cE (blkOf c scope) e).t ρE h with
    | bad => rw [et] at p; exact p.elim
    | err z g => rw [et] at p; exact p
    | ok b g => rw [et] at p; exact p
  | _ :: _ :: _, hl, _, _ => simp at hl
def SoL (X : Cx) (C : Str → List Vl → Mm → R Vl) : List Expr → List E → Prop
  | [], [] => True
  | e :: es, v :: vs => SoE X C e v ∧ SoL X C es vs
  | _, _ => False
theorem so_argsL (x : Ctx X c C k) : ∀ (es : List Expr) (vs : List E), es.all notStar = true → SoL X C es vs → ∀ as h ρE ρ M (Ψ : List Rv → Mem → Prop) (Ξ : Xi), ERel as ρE ρ → MOk as h M → PV X.mg as (evs C vs ρE h) (QL Ψ) (XI ρ Ξ) → GA X es ρ M Ψ Ξ
  | [], [], _, _, as, h, ρE, ρ, M, Ψ, Ξ, er, m, p => by rw [evs] at p; exact ga_nil (p as List.prefix_rfl [] M .nil m)
  | [], _ :: _, _, hs, _, _, _, _, _, _, _, _, _, _ => hs.elim
  | _ :: _, [], _, hs, _, _, _, _, _, _, _, _, _, _ => hs.elim
  | e :: es, v :: vs, hn, hs, as, h, ρE, ρ, M, Ψ, Ξ, er, m, p => by
    rw [List.all_cons, Bool.and_eq_true] at hn
    rw [evs] at p
    refine ga_cons (star_cons hn.1) (hs.1 as h ρE ρ M _ Ξ er m ((pv_bind p).imp fun as1 u h1 pre q r M1 r1 m1 => ?_))
    refine so_argsL x es vs hn.2 hs.2 as1 h1 ρE ρ M1 _ Ξ (er.mono pre) m1 ((pv_bind q).imp fun as2 us h2 pre2 q2 rs M2 rl m2 => ?_)
    exact q2 as2 List.prefix_rfl _ M2 (.cons (r1.mono pre2) rl) m2
theorem so_tupL (x : Ctx X c C k) {es : List Expr} {vs : List E} {kk : Nat} {pos : Pos} (hn : es.all notStar = true) (hs : SoL X C es vs) : SoE X C (.Tuple es kk pos) (.tup vs) := fun as h ρE ρ M Φ Ξ er m p => by
  rw [ev] at p
  refine ge_tupR (so_argsL x es vs hn hs as h ρE ρ M _ Ξ er m ((pv_bind p).imp fun as1 us h1 pre q rs M1 rl m1 => ?_))
  split at q
  · rename_i hz; exact ⟨by rw [← rl.len]; exact hz, post_val q m1 (.tup rl)⟩
  · exact q.elim
theorem so_rng3 (x : Ctx X c C k) {tg a b d : Expr} {p1 p2 : Pos} {va vb vd : E} (hu : useB c "range" = true) (hn : notStar a = true) (hn2 : notStar b = true) (hn3 : notStar d = true) (ha : SoE X C a va) (hb : SoE X C b vb) (hd : SoE X C d vd) : SoI X C tg (.Call (.Name "range" p1) [a, b, d] [] p2) (.rng3 va vb vd) := fun as h ρE ρ M Θ Ξ er m p => by
  obtain ⟨g1, g2, g3⟩ := useB_of x hu
  rw [evIt] at p
  refine gi_rng3W g3 g1 (star_cons hn) (star_any (by simp [hn2, hn3])) (ga_cons (star_cons hn) (ha as h ρE ρ M _ Ξ er m ((pv_bind p).imp fun as1 u h1 pre q r M1 r1 m1 => ?_)))
  refine ga_cons (star_cons hn2) (hb as1 h1 ρE ρ M1 _ Ξ (er.mono pre) m1 ((pv_bind q).imp fun as2 u h2 pre2 q2 r2 M2 rr2 m2 => ?_))
  refine ga_cons (star_cons hn3) (hd as2 h2 ρE ρ M2 _ Ξ (er.mono (pre.trans pre2)) m2 ((pv_bind q2).imp fun as3 w h3 pre3 q3 r3 M3 rr3 m3 => ga_nil ?_))
  cases r1 with
  | int i =>
    cases rr2 with
    | int j =>
      cases rr3 with
      | int l =>
        simp only at q3
        split at q3
        · rename_i hs
          simp only [small, Bool.and_eq_true, decide_eq_true_eq] at hs
          obtain ⟨⟨⟨a1, a2⟩, b1, b2⟩, rfl⟩ := hs
          refine ⟨i, j, rfl, ⟨a1, a2, b1, b2⟩, q3 as3 List.prefix_rfl _ _ M3 ?_ m3 fun _ _ _ _ _ _ => trivial⟩
          unfold rngC
          generalize List.range (i - j).toNat = l
          induction l with
          | nil => exact .nil
          | cons a l ih => exact .cons (.int _) ih
        · exact q3.elim
      | _ => exact q3.elim
    | _ => exact q3.elim
  | _ => exact q3.elim
/-! ## all of it -/
abbrev SoAll (X : Cx) (c : Cc) (C : Str → List Vl → Mm → R Vl) (e : Expr) (r : Cr) : Prop := SoE X C e r.v ∧ SoT X C e r.t ∧ (∀ tg, itOk (isTup tg) r.i = true → SoI X C tg e r.i) ∧ SoE X C e r.m
def Snd (C : Str → List Vl → Mm → R Vl) (k : Nat) (e : Expr) : Prop := ∀ X c, Ctx X c C k → SoAll X c C e (cE c e)
theorem snd_stp {e : Expr} (h : cE c e = stp) : SoAll X c C e (cE c e) := by
  rw [h]; exact ⟨so_stop, so_stopT, fun _ _ => so_stopI, so_stop⟩
theorem snd_dfl {e : Expr} {v : E} (h : cE c e = dfl v) (hp : plainT e = true) (hv : SoE X C e v) : SoAll X c C e (cE c e) := by
  rw [h]; exact ⟨hv, so_tru hp hv, fun _ _ => so_over hv, hv⟩
theorem snd_dflZ {e : Expr} {v : E} (h : cE c e = dflZ c v) (hp : plainT e = true) (hv : SoE X C e v) : SoAll X c C e (cE c e) := by
  rw [h]; exact ⟨so_fz hv, so_tru hp (so_fz hv), fun _ _ => so_over (so_fz hv), hv⟩
theorem snd_dflC {e : Expr} {es : List E} {f : Str} (h : cE c e = dflC c f es) (hp : plainT e = true) (h1 : SoE X C e (.fcall f es)) (h2 : SoE X C e (.call f es)) : SoAll X c C e (cE c e) := by
  unfold dflC at h
  split at h
  · rw [h]; exact ⟨h1, so_tru hp h1, fun _ _ => so_over h1, h2⟩
  · exact snd_dfl h hp h2
theorem snd_dflK {e : Expr} {es : List E} {f : Str} {pm : List Nat} (h : cE c e = dflK c f es pm) (hp : plainT e = true) (h1 : SoE X C e (.fcallk f es pm)) (h2 : SoE X C e (.callk f es pm)) : SoAll X c C e (cE c e) := by
  unfold dflK at h
  split at h
  · rw [h]; exact ⟨h1, so_tru hp h1, fun _ _ => so_over h1, h2⟩
  · exact snd_dfl h hp h2
theorem snd_mk {e : Expr} {v t i : E} (h : cE c e = ⟨v, t, i, v⟩) (hv : SoE X C e v) (ht : SoT X C e t) (hi : ∀ tg, itOk (isTup tg) i = true → SoI X C tg e i) : SoAll X c C e (cE c e) := by
  rw [h]; exact ⟨hv, ht, hi, hv⟩
theorem snd_mkZ {e : Expr} {v t i m : E} (h : cE c e = ⟨v, t, i, m⟩) (hv : SoE X C e v) (ht : SoT X C e t) (hi : ∀ tg, itOk (isTup tg) i = true → SoI X C tg e i) (hm : SoE X C e m) : SoAll X c C e (cE c e) := by
  rw [h]; exact ⟨hv, ht, hi, hm⟩
theorem all_star {es : List Expr} (h : es.all notStar = true) : ∀ e ∈ es, notStar e = true := by simpa using h
theorem snd_n (C : Str → List Vl → Mm → R Vl) (k : Nat) : ∀ n e, sizeOf e < n → Snd C k e := by
  intro n
  induction n with
  | zero => intro e h; omega
  | succ n ih =>
    intro e hlt X c x
    have lst : ∀ (es : List Expr), sizeOf es < n → ∀ e ∈ es, SoE X C e (cE c e).v ∧ SoT X C e (cE c e).t := fun es hl e he => by
      have := List.sizeOf_lt_of_mem he
      have q := ih e (by omega) X c x
      exact ⟨q.1, q.2.1⟩
    have lstm : ∀ (es : List Expr), sizeOf es < n → ∀ e ∈ es, SoE X C e (cE c e).m := fun es hl e he => by
      have := List.sizeOf_lt_of_mem he
      exact (ih e (by omega) X c x).2.2.2
    cases e with
    | Constant v j p =>
      cases v with
      | int i => exact snd_dfl rfl rfl so_int
      | bool i => exact snd_dfl rfl rfl so_bl
      | none => exact snd_dfl rfl rfl so_non
      | str i => exact snd_dfl rfl rfl so_str
      | _ => exact snd_stp rfl
    | Name n p => exact snd_dfl rfl rfl (so_name x)
    | BinOp a o b p =>
      simp at hlt
      have hc : cE c (.BinOp a o b p) = (match opC o with
        | some o => if isLst a then dflZ c (.bin o (cE c a).m (cE c b).v) else ⟨.bin o (cE c a).v (cE c b).v, .tru (.bin o (cE c a).v (cE c b).v), .over (.bin o (cE c a).v (cE c b).v), .bin o (cE c a).m (cE c b).v⟩
        | none => stp) := rfl
      cases ho : opC o with
      | none => exact snd_stp (by rw [hc, ho])
      | some o' =>
        cases opC_eq ho
        have qa := ih a (by omega) X c x
        have qb := (ih b (by omega) X c x).1
        have w := so_bin x (o := o') (pos := p) qa.2.2.2 qb
        cases hl : isLst a with
        | true => exact snd_dflZ (by rw [hc, ho]; simp only [hl]; rfl) rfl w
        | false =>
          have v := so_bin x (o := o') (pos := p) qa.1 qb
          exact snd_mkZ (by rw [hc, ho]; simp only [hl]; rfl) v (so_tru rfl v) (fun _ _ => so_over v) w
    | UnaryOp o a p =>
      simp at hlt
      have q := ih a (by omega) X c x
      cases o with
      | Not => exact snd_mk rfl (so_not q.1) (so_notT q.2.1) (fun _ _ => so_stopI)
      | USub => exact snd_dfl rfl rfl (so_neg q.1)
      | _ => exact snd_stp rfl
    | Compare a ops bs p =>
      simp at hlt
      rcases ops with _ | ⟨o, _ | ⟨o2, _ | ⟨o3, ops⟩⟩⟩
      · exact snd_stp (by cases bs <;> rfl)
      · rcases bs with _ | ⟨b, _ | ⟨b2, bs⟩⟩
        · exact snd_stp rfl
        · simp at hlt
          have hc : cE c (.Compare a [o] [b] p) = (match cpC o with
            | some o => if notSet b then dfl (.cmp o (cE c a).v (cE c b).v) else stp
            | none => stp) := rfl
          cases ho : cpC o with
          | none => exact snd_stp (by rw [hc, ho])
          | some o' =>
            cases cpC_eq ho
            cases hs : notSet b with
            | false => exact snd_stp (by rw [hc, ho]; simp only [hs]; rfl)
            | true =>
              have qa := (ih a (by omega) X c x).1
              have qb := (ih b (by omega) X c x).1
              refine snd_mk (v := .cmp o' (cE c a).v (cE c b).v) (t := .tru _) (i := .over _) (by rw [hc, ho]; simp only [hs]; rfl) (so_cmp x hs qa qb) (so_cmpT x hs qa qb) fun _ _ => so_over (so_cmp x hs qa qb)
        · exact snd_stp rfl
      · rcases bs with _ | ⟨b, _ | ⟨b2, _ | ⟨b3, bs⟩⟩⟩
        · exact snd_stp rfl
        · exact snd_stp rfl
        · simp at hlt
          have hc : cE c (.Compare a [o, o2] [b, b2] p) = (match cpC o, cpC o2 with
            | some o, some p => if notSet b2 then dfl (.chain o p (cE c a).v (cE c b).v (cE c b2).v) else stp
            | _, _ => stp) := rfl
          cases ho : cpC o with
          | none => exact snd_stp (by rw [hc, ho])
          | some o' =>
            cases ho2 : cpC o2 with
            | none => exact snd_stp (by rw [hc, ho, ho2])
            | some o2' =>
              cases cpC_eq ho
              cases cpC_eq ho2
              cases hs : notSet b2 with
              | false => exact snd_stp (by rw [hc, ho, ho2]; simp only [hs]; rfl)
              | true =>
                have qa := (ih a (by omega) X c x).1
                have qb := (ih b (by omega) X c x).1
                have qd := (ih b2 (by omega) X c x).1
                refine snd_mk (v := .chain o' o2' (cE c a).v (cE c b).v (cE c b2).v) (t := .tru _) (i := .over _) (by rw [hc, ho, ho2]; simp only [hs]; rfl) (so_chain x hs qa qb qd) (so_chainT x hs qa qb qd) fun _ _ => so_over (so_chain x hs qa qb qd)
        · exact snd_stp rfl
      · exact snd_stp (by rcases bs with _ | ⟨b, _ | ⟨b2, _ | ⟨b3, bs⟩⟩⟩ <;> rfl)
    | BoolOp o es p =>
      simp at hlt
      have q := lst es (by omega)
      cases o with
      | And => exact snd_mk rfl (so_and x es fun e he => (q e he).1) (fun as h ρE ρ M Ψ Ξ er m p => gt_w (so_andW x es (fun e he => (q e he).2) as h ρE ρ M Ψ Ξ er m p)) fun _ _ => so_stopI
      | Or => exact snd_mk rfl (so_or x es fun e he => (q e he).1) (fun as h ρE ρ M Ψ Ξ er m p => gt_w (so_orW x es (fun e he => (q e he).2) as h ρE ρ M Ψ Ξ er m p)) fun _ _ => so_stopI
    | IfExp t a b p =>
      simp at hlt
      have v := so_ite (pos := p) (ih t (by omega) X c x).2.1 (ih a (by omega) X c x).1 (ih b (by omega) X c x).1
      exact snd_mk rfl v so_stopT fun _ _ => so_over v
    | Tuple es kk p =>
      simp at hlt
      cases hn : es.all notStar with
      | false => exact snd_stp (by rw [cE, hn]; rfl)
      | true =>
        have v := so_tup x (kk := kk) (pos := p) hn fun e he => (lst es (by omega) e he).1
        have w : SoL X C es (cMs c es) := by
          have : ∀ es' : List Expr, (∀ e ∈ es', SoE X C e (cE c e).m) → SoL X C es' (cMs c es') := by
            intro es'
            induction es' with
            | nil => intro _; exact trivial
            | cons a t ih => intro h; exact ⟨h a (by simp), ih fun e he => h e (List.mem_cons_of_mem _ he)⟩
          exact this es fun e he => (lstm es (by omega) e he)
        exact snd_mkZ (by rw [cE, hn]; rfl) v so_stopT (fun _ _ => so_over v) (so_tupL x hn w)
    | List es p =>
      simp at hlt
      cases hn : es.all notStar with
      | false => exact snd_stp (by rw [cE, hn]; rfl)
      | true =>
        have v := so_lst x (pos := p) hn fun e he => (lst es (by omega) e he).1
        exact snd_mkZ (by rw [cE, hn]; rfl) (so_fl x hn fun e he => (lst es (by omega) e he).1) so_stopT (fun _ _ => so_over (so_fl x hn fun e he => (lst es (by omega) e he).1)) v
    | Subscript a b p =>
      simp at hlt
      have qa := (ih a (by omega) X c x).1
      have gen : notSlice b = true → cE c (.Subscript a b p) = (if notSlice b && notTup b then dfl (.ix (cE c a).v (cE c b).v) else stp) → SoAll X c C (.Subscript a b p) (cE c (.Subscript a b p)) := fun h1 h2 => by
        cases ht : notTup b with
        | false => exact snd_stp (by rw [h2, ht, Bool.and_false]; rfl)
        | true => exact snd_dfl (by rw [h2, h1, ht]; rfl) rfl (so_ix h1 qa (ih b (by omega) X c x).1)
      cases b with
      | Slice lo hi st p2 =>
        cases st with
        | none =>
          simp at hlt
          refine snd_dflZ rfl rfl (so_slice x qa (fun e he => ?_) fun e he => ?_)
          · subst he; simp at hlt; exact (ih e (by omega) X c x).1
          · subst he; simp at hlt; exact (ih e (by omega) X c x).1
        | some s => exact snd_stp rfl
      | _ => exact gen rfl rfl
    | Call f args kws p =>
      simp at hlt
      cases f with
      | Attribute o at' p1 =>
        simp at hlt
        have hc : cE c (.Call (.Attribute o at' p1) args kws p) = attrC at' o p1 args kws p (cE c o).v (cEs c args) := rfl
        rcases args with _ | ⟨e, _ | ⟨e2, es⟩⟩
        · exact snd_stp (by rw [hc]; rfl)
        · cases kws with
          | nil =>
            simp at hlt
            have hc2 : attrC at' o p1 [e] [] p (cE c o).v (cEs c [e]) = if at' == ("append" : Str) && plainB o && notStar e && (p1.endLine == p.line) then ⟨.app (cE c o).v (cE c e).v, .stop, .stop, .app (cE c o).v (cE c e).v⟩ else stp := rfl
            cases hh : (at' == ("append" : Str) && plainB o && notStar e && (p1.endLine == p.line)) with
            | false => exact snd_stp (by rw [hc, hc2, hh]; rfl)
            | true =>
              have hh' := hh
              simp only [Bool.and_eq_true] at hh'
              obtain ⟨⟨⟨h1, h2⟩, h3⟩, h4⟩ := hh'
              have h1 : at' = "append" := by simpa using h1
              subst h1
              exact snd_mk (by rw [hc, hc2, hh]; rfl) (so_app h2 h3 h4 (ih o (by omega) X c x).1 (ih e (by omega) X c x).1) so_stopT fun _ _ => so_stopI
          | cons k ks => exact snd_stp (by rw [hc]; rfl)
        · exact snd_stp (by rw [hc]; rfl)
      | Name f p1 =>
        have hc : cE c (.Call (.Name f p1) args kws p) = callC c f args kws (cEs c args) (cKs c kws) := rfl
        have qs := lst args (by omega)
        cases hg : isGl c f with
        | false => exact snd_stp (by rw [hc]; unfold callC; rw [hg]; rfl)
        | true =>
          cases args with
          | nil =>
            cases kws with
            | nil => exact snd_stp (by rw [hc]; unfold callC; rw [hg]; rfl)
            | cons kw ks =>
              have hc2 : callC c f [] (kw :: ks) (cEs c []) (cKs c (kw :: ks)) = (match c.fns.lookup f, kwNames (kw :: ks) with
                | some (ps, ords), some ns => if ords.contains ns then dflK c f (cKs c (kw :: ks)) (permC ns ps) else stp
                | _, _ => stp) := by unfold callC; rw [hg]; rfl
              cases hf : c.fns.lookup f with
              | none => exact snd_stp (by rw [hc, hc2, hf])
              | some pp =>
                obtain ⟨ps, ords⟩ := pp
                cases hk : kwNames (kw :: ks) with
                | none => exact snd_stp (by rw [hc, hc2, hf, hk])
                | some ns =>
                  cases ho : ords.contains ns with
                  | false => exact snd_stp (by rw [hc, hc2, hf, hk]; simp only [ho]; rfl)
                  | true =>
                    have sub : ∀ a ∈ kw :: ks, SoE X C a.value (cE c a.value).v := fun a ha => by
                      have h1 := List.sizeOf_lt_of_mem ha
                      have h2 : sizeOf a.value < sizeOf a := by cases a; simp; omega
                      exact (ih a.value (by omega) X c x).1
                    exact snd_dflK (f := f) (by rw [hc, hc2, hf, hk]; simp only [ho]; rfl) rfl (so_fcallk x hg hf hk ho sub) (so_callk x hg hf hk ho sub)
          | cons e es =>
            cases kws with
            | cons kw ks => exact snd_stp (by rw [hc]; unfold callC; rw [hg]; rfl)
            | nil =>
              have hc2 : callC c f (e :: es) [] (cEs c (e :: es)) (cKs c []) = if (e :: es).all notStar then (match c.fns.lookup f with
                | some _ => dflC c f ((cE c e).v :: cEs c es)
                | none => if c.bts.contains f then bltC c f es (cE c e).v (cEs c es) else stp) else stp := by unfold callC; rw [hg]; rfl
              cases hn : (e :: es).all notStar with
              | false => exact snd_stp (by rw [hc, hc2, hn]; rfl)
              | true =>
                cases hf : c.fns.lookup f with
                | some pp =>
                  obtain ⟨ps, ords⟩ := pp
                  exact snd_dflC (f := f) (by rw [hc, hc2, hn, hf]; rfl) rfl (so_fcall x hg hf hn fun a ha => (qs a ha).1) (so_call x hg hf hn fun a ha => (qs a ha).1)
                | none =>
                  cases hb : c.bts.contains f with
                  | false => exact snd_stp (by rw [hc, hc2, hn, hf, hb]; rfl)
                  | true =>
                    have hc3 : cE c (.Call (.Name f p1) (e :: es) [] p) = bltC c f es (cE c e).v (cEs c es) := by rw [hc, hc2, hn, hf, hb]; rfl
                    have hu : useB c f = true := by unfold useB; rw [hg, hb]; rfl
                    have hne : notStar e = true := all_star hn e (by simp)
                    by_cases f1 : f = "isinstance"
                    · subst f1
                      have hc4 : bltC c "isinstance" es (cE c e).v (cEs c es) = isiC c es (cE c e).v := rfl
                      rcases es with _ | ⟨t, _ | ⟨t2, es⟩⟩
                      · exact snd_stp (by rw [hc3]; rfl)
                      · cases t with
                        | Name tn tp =>
                          have hc5 : isiC c [.Name tn tp] (cE c e).v = (match tyC tn with
                            | some t => if useB c t.nm then dfl (.isi (cE c e).v t) else stp
                            | none => stp) := rfl
                          cases ht : tyC tn with
                          | none => exact snd_stp (by rw [hc3, hc4, hc5, ht])
                          | some t =>
                            cases hut : useB c t.nm with
                            | false => exact snd_stp (by rw [hc3, hc4, hc5, ht]; simp only [hut]; rfl)
                            | true =>
                              have e1 := tyC_nm ht
                              subst e1
                              exact snd_dfl (by rw [hc3, hc4, hc5, ht]; simp only [hut]; rfl) rfl (so_isi x hu hut hne (qs e (by simp)).1)
                        | _ => exact snd_stp (by rw [hc3]; rfl)
                      · exact snd_stp (by rw [hc3, hc4]; cases t <;> rfl)
                    · by_cases f2 : f = "range"
                      · subst f2
                        rcases es with _ | ⟨b, _ | ⟨b2, es⟩⟩
                        · exact snd_mk (by rw [hc3]; rfl) so_stop so_stopT fun tg _ => so_rng1 x hu hne (qs e (by simp)).1
                        · exact snd_mk (by rw [hc3]; rfl) so_stop so_stopT fun tg _ => so_rng2 x hu hne (all_star hn b (by simp)) (qs e (by simp)).1 (qs b (by simp)).1
                        · rcases es with _ | ⟨b3, es⟩
                          · exact snd_mk (by rw [hc3]; rfl) so_stop so_stopT fun tg _ => so_rng3 x hu hne (all_star hn b (by simp)) (all_star hn b2 (by simp)) (qs e (by simp)).1 (qs b (by simp)).1 (qs b2 (by simp)).1
                          · exact snd_stp (by rw [hc3]; rfl)
                      · by_cases f3 : f = "enumerate"
                        · subst f3
                          rcases es with _ | ⟨b, es⟩
                          · refine snd_mk (i := .enum (cE c e).v) (by rw [hc3]; rfl) so_stop so_stopT fun tg ht => ?_
                            cases tg with
                            | Tuple ts kk tp => exact so_enum x hu hne (qs e (by simp)).1
                            | _ => cases ht
                          · exact snd_stp (by rw [hc3]; rfl)
                        · by_cases f4 : f = "zip"
                          · subst f4
                            rcases es with _ | ⟨b, _ | ⟨b2, es⟩⟩
                            · exact snd_stp (by rw [hc3]; rfl)
                            · refine snd_mk (i := .zip (cE c e).v (cE c b).v) (by rw [hc3]; rfl) so_stop so_stopT fun tg ht => ?_
                              cases tg with
                              | Tuple ts kk tp => exact so_zip x hu hne (all_star hn b (by simp)) (qs e (by simp)).1 (qs b (by simp)).1
                              | _ => cases ht
                            · exact snd_stp (by rw [hc3]; rfl)
                          · have hc4 : bltC c f es (cE c e).v (cEs c es) = (match biC f with
                              | some b => (if b = .list then dflZ c (.bi b ((cE c e).v :: cEs c es)) else dfl (.bi b ((cE c e).v :: cEs c es)))
                              | none => stp) := by
                              unfold bltC
                              rw [if_neg (by simpa using f1), if_neg (by simpa using f2), if_neg (by simpa using f3), if_neg (by simpa using f4)]
                              try rfl
                            cases hbi : biC f with
                            | none => exact snd_stp (by rw [hc3, hc4, hbi])
                            | some b =>
                              by_cases hl : b = .list
                              · exact snd_dflZ (by rw [hc3, hc4, hbi]; simp only [if_pos hl]) rfl (so_bi x hu hbi hn fun a ha => (qs a ha).1)
                              · exact snd_dfl (by rw [hc3, hc4, hbi]; simp only [if_neg hl]) rfl (so_bi x hu hbi hn fun a ha => (qs a ha).1)
      | _ => exact snd_stp rfl
    | ListComp elt gs scope p =>
      rcases gs with _ | ⟨⟨tg, it, ifs, asy⟩, _ | ⟨g2, gs⟩⟩
      · exact snd_stp rfl
      · by_cases ha : asy = 0
        · subst ha
          simp at hlt
          have hc : cE c (.ListComp elt [⟨tg, it, ifs, 0⟩] scope p) = lcC c scope tg it ifs (cE c it).i (cTs (blkOf c scope) ifs) (cE (blkOf c scope) elt).v := rfl
          cases ht : cTg (blkOf c scope) tg with
          | none => exact snd_stp (by rw [hc, lcC, ht])
          | some t =>
            cases hh : (blkC c.N c.sc scope (ownC c scope) && !(ownC c scope).isEmpty && notSet it && decide (ifs.length ≤ 1) && itOk (isTup tg) (cE c it).i) with
            | false => exact snd_stp (by rw [hc, lcC, ht]; simp only [hh]; rfl)
            | true =>
              have hh' := hh
              simp only [Bool.and_eq_true, decide_eq_true_eq, Bool.not_eq_true'] at hh'
              obtain ⟨⟨⟨⟨h1, h2⟩, h3⟩, h4⟩, h5⟩ := hh'
              have b := x.block scope
              have v := so_lc x (pos := p) (elt := elt) (ve := (cE (blkOf c scope) elt).v) h1 h2 h3 h4 ((ih it (by omega) X c x).2.2.1 tg h5) (fun s H Cc cl fp => so_tg (b s H Cc cl fp) tg t ht)
                (fun e he s H Cc cl fp => by
                  have := List.sizeOf_lt_of_mem he
                  exact (ih e (by omega) _ _ (b s H Cc cl fp)).2.1) (fun s H Cc cl fp => (ih elt (by omega) _ _ (b s H Cc cl fp)).1)
              exact snd_mkZ (by rw [hc, lcC, ht]; simp only [hh]; rfl) (so_fz v) so_stopT (fun _ _ => so_over (so_fz v)) v
        · refine snd_stp ?_
          cases asy with
          | ofNat n => cases n with
            | zero => exact absurd rfl ha
            | succ n => rfl
          | negSucc n => rfl
      · refine snd_stp ?_
        cases asy with
        | ofNat n => cases n <;> rfl
        | negSucc n => rfl
    | _ => exact snd_stp rfl
theorem snd (C : Str → List Vl → Mm → R Vl) (k : Nat) (e : Expr) : Snd C k e := snd_n C k (sizeOf e + 1) e (by omega)
end
end IR

set_option Elab.async false
set_option linter.all false
set_option maxRecDepth 100000
set_option maxHeartbeats 4000000
namespace IR
open PySem PySem.Spec PyProof.Rows L2 Dl
section
variable {X : Cx} {c : Cc} {C : Str → List Vl → Mm → R Vl} {k : Nat}
def PS (mg : Mg) (as : List Addr) (r : RS) (D : DE) : Prop :=
  match r with
  | .next ρ' h' => ∀ as' ρ2 M', as <+: as' → ERel as' ρ' ρ2 → MOk as' h' M' → D.nx ρ2 M'
  | .ret v h' => ∀ as' r M', as <+: as' → Rel as' v r → MOk as' h' M' → D.rt r M'
  | .brk ρ' h' => ∀ as' ρ2 M', as <+: as' → ERel as' ρ' ρ2 → MOk as' h' M' → D.bk ρ2 M'
  | .cont ρ' h' => ∀ as' ρ2 M', as <+: as' → ERel as' ρ' ρ2 → MOk as' h' M' → D.ct ρ2 M'
  | .err x ρ' h' => ∀ as' e ρ2 M', as <+: as' → XRel mg x e → ERel as' ρ' ρ2 → MOk as' h' M' → D.xx e ρ2 M'
  | .bad => False
theorem PS.mono {mg : Mg} {as as' : List Addr} {r : RS} {D : DE} (h : as <+: as') (p : PS mg as r D) : PS mg as' r D := by
  cases r with
  | next _ _ => exact fun as'' a b e => p as'' a b (h.trans e)
  | ret _ _ => exact fun as'' a b e => p as'' a b (h.trans e)
  | brk _ _ => exact fun as'' a b e => p as'' a b (h.trans e)
  | cont _ _ => exact fun as'' a b e => p as'' a b (h.trans e)
  | err _ _ _ => exact fun as'' a b d e => p as'' a b d (h.trans e)
  | bad => exact p
theorem sole_eq {t v : Expr} {l : Nat} {env : Env} : swapsWithSole [t] v l env = swapsWith v (some t) l env := by
  unfold swapsWithSole; rfl
/-- an expression first -/
theorem ps_bind {α : Type} {mg : Mg} {as : List Addr} {r : R α} {ρE : Ev} {ρ : List Rv} {f : α → Mm → RS} {D : DE} (er : ERel as ρE ρ) (p : PS mg as (r.bindS ρE f) D) : PV mg as r (fun as' a h' => PS mg as' (f a h') D) (XI ρ D.xx) := by
  cases r with
  | ok a h' => exact fun as' k => p.mono k
  | err x h' => exact fun as' e M' pre q m => p as' e ρ M' pre q (er.mono pre) m
  | bad => exact p
def SoS (X : Cx) (C : Str → List Vl → Mm → R Vl) (st : Stmt) (s : S) : Prop := ∀ as h ρE ρ M (D : DE), ERel as ρE ρ → MOk as h M → PS X.mg as (ex C s ρE h) D → GS X st ρ M D
def SoSs (X : Cx) (C : Str → List Vl → Mm → R Vl) (st : List Stmt) (s : List S) : Prop := ∀ as h ρE ρ M (D : DE), ERel as ρE ρ → MOk as h M → PS X.mg as (exs C s ρE h) D → GSs X st ρ M D
theorem so_sstop {st : Stmt} : SoS X C st .stop := fun _ _ _ _ _ _ _ _ p => p.elim
theorem var_of (x : Ctx X c C k) (hb : c.blk = false) {n : Str} {i : Nat} (h : slotW c n = some i) : Var X i n := by
  obtain ⟨a1, a2, a3, a4, a5, a6⟩ := slotW_of x h
  exact ⟨a1, a2.elim (fun h => .inl h) fun h => .inr (.inl h), a2, (x.fn hb).1 n, a5, a6⟩
theorem so_set (x : Ctx X c C k) (hb : c.blk = false) {n : Str} {i : Nat} {e : Expr} {v : E} {py p : Pos} (hi : slotW c n = some i) (hn : notComp e = true) (he : SoE X C e v) : SoS X C (.Assign [.Name n py] e p) (.set i v) := fun as h ρE ρ M D er m p => by
  rw [ex] at p
  refine gs_set (var_of x hb hi) x.nd (swap_no hn) (he as h ρE ρ M _ _ er m ((ps_bind er p).imp fun as1 u h1 pre q r M1 r1 m1 => ?_))
  exact q as1 _ M1 List.prefix_rfl (ERel.set (.some r1) i (er.mono pre)) m1
theorem so_setLc (x : Ctx X c C k) (hb : c.blk = false) {n : Str} {i : Nat} {scope : Scope} {tg it elt : Expr} {ifs : List Expr} {t : Tg} {vit ve : E} {pos py p : Pos} (hi : slotW c n = some i) (h1 : c.sc.kind = .function) (h2 : c.sc.names.lookup n = some .local) (h3 : (py.line == pos.line) = true)
    (h4 : (scope.names.any fun (m, k) => m == n && (k == .local || k == .cell)) = false) (hk : blkC c.N c.sc scope (ownC c scope) = true) (ho : (ownC c scope).isEmpty = false) (hs : notSet it = true) (hl : ifs.length ≤ 1)
    (hit : SoI X C tg it vit) (hg : AllB X scope fun X1 => SoG X1 (blkOf c scope).vs tg t) (hif : ∀ e ∈ ifs, AllB X scope fun X1 => SoT X1 C e (cE (blkOf c scope) e).t) (he : AllB X scope fun X1 => SoE X1 C elt ve) :
    SoS X C (.Assign [.Name n py] (.ListComp elt [⟨tg, it, ifs, 0⟩] scope pos) p) (.set i (.lc t vit (cTs (blkOf c scope) ifs) ve ((ownC c scope).map (·.2)))) := fun as h ρE ρ M D er m p => by
  rw [ex, ev] at p
  have hown : ownC c scope ≠ [] := by
    intro e; rw [e] at ho; cases ho
  refine gs_lcW (ownC c scope) (F := Own _) (.inr rfl) hown (var_of x hb hi) x.calm x.nd (by rw [x.sc]; exact h2) (sw_true (by rw [x.sc]; exact h1) (by rw [x.sc]; exact h2) h3 h4) (by rw [x.hN, x.sc]; exact blkOk_by hk) (fold_no hs _) ?_
  refine hit as h ρE ρ M _ _ er m ((pv_bind (ps_bind er p |> fun z => (z : PV X.mg as _ _ _))).imp fun as1 w h1 pre q rs S M1 rl m1 st => ?_)
  refine comp_run (vs := (ownC c scope).map (·.2)) (ξ := XI ρ D.xx) hg ?_ he w.1 [] rs [] as1 h1 M1 rl .nil m1 (er.mono pre) st (q.imp fun as2 v h2 pre2 z r M2 rr m2 => z as2 _ M2 List.prefix_rfl (ERel.set (.some rr) i (er.mono (pre.trans pre2))) m2)
  intro s H Cc cl fp as h ρE ρ M Ψ er m p
  match ifs, hl, hif, p with
  | [], _, _, p => rw [cTs, tvL] at p; exact p as List.prefix_rfl M m
  | [e], _, hi, p =>
    rw [cTs, cTs, tvL] at p
    refine hi e (by simp) s H Cc cl fp as h ρE ρ M Ψ X0 er m ?_
    cases et : tv C (cE (blkOf c scope) e).t ρE h with
    | bad => rw [et] at p; exact p.elim
    | err z g => rw [et] at p; exact p
    | ok b g => rw [et] at p; exact p
  | _ :: _ :: _, hl, _, _ => simp at hl
theorem so_asg (x : Ctx X c C k) (hb : c.blk = false) {ts : List Expr} {tgs : List Tg} {e : Expr} {v : E} {k1 : Nat} {p1 p : Pos} (ht : cTgs c ts = some tgs) (hn : notComp e = true) (hsw : swappedStores [.Tuple ts k1 p1] e X.env = pure none) (he : SoE X C e v) : SoS X C (.Assign [.Tuple ts k1 p1] e p) (.tset (.tup tgs) v) := fun as h ρE ρ M D er m p => by
  rw [ex] at p
  refine gs_asg (by rw [sole_eq]; exact swap_no hn) hsw rfl (he as h ρE ρ M _ _ er m ((ps_bind er p).imp fun as1 u h1 pre q r M1 r1 m1 => ?_))
  have g := so_tg x (.Tuple ts k1 p1) (.tup tgs) (by rw [cTg, ht]; rfl)
  rw [(x.fn hb).2] at g
  cases ea : asgT (.tup tgs) u ρE with
  | none => rw [ea] at q; exact q.elim
  | some ρ1 =>
    rw [ea] at q
    exact g as1 u r ρE ρ1 ρ M1 _ r1 (er.mono pre) ea fun ρ' er' => q as1 ρ' M1 List.prefix_rfl er' m1
theorem so_setix (x : Ctx X c C k) {o i e : Expr} {vo vi ve : E} {p1 p : Pos} (hn : notComp e = true) (hi : notSlice i = true) (ho : SoE X C o vo) (hii : SoE X C i vi) (he : SoE X C e ve) : SoS X C (.Assign [.Subscript o i p1] e p) (.setix vo vi ve) := fun as h ρE ρ M D er m p => by
  rw [ex] at p
  refine setix_at (by rw [sole_eq]; exact swap_no hn) rfl rfl (fun v => by cases i <;> first | rfl | cases hi) (he as h ρE ρ M _ _ er m ((ps_bind er p).imp fun as1 v h1 pre q r M1 r1 m1 => ?_))
  refine ho as1 h1 ρE ρ M1 _ _ (er.mono pre) m1 ((ps_bind (er.mono pre) q).imp fun as2 u h2 pre2 q2 r2 M2 rr2 m2 => ?_)
  have pp := pre.trans pre2
  refine hii as2 h2 ρE ρ M2 _ _ (er.mono pp) m2 ((ps_bind (er.mono pp) q2).imp fun as3 w h3 pre3 q3 r3 M3 rr3 m3 => ?_)
  cases es : setixV u w v h3 with
  | none => rw [es] at q3; exact q3.elim
  | some h4 =>
    rw [es] at q3
    unfold setixV at es
    split at es
    · rename_i n kk
      split at es
      · rename_i xs hx
        split at es
        · rename_i j hj
          cases es
          cases rr2 with
          | cell ec =>
            cases rr3
            obtain ⟨rs, rl, hm⟩ := m3.get (pre_get pre3 ec) hx
            obtain ⟨M4, hc, m4⟩ := m3.set (pre_get pre3 ec) hx rl (rl.set (r1.mono (pre2.trans pre3)) j)
            exact ⟨_, rs, kk, j, M4, rfl, rfl, hc, by rw [← rl.len]; exact hj, q3 as3 ρ M4 List.prefix_rfl (er.mono (pp.trans pre3)) m4⟩
        · cases es
      · cases es
    · cases es
/-! a store that freezes -/
theorem set_self {α : Type} {xs : List α} {i : Nat} {v : α} (h : xs[i]? = some v) : xs.set i v = xs := by
  refine List.ext_getElem? fun j => ?_
  rw [List.getElem?_set]
  split
  · rename_i e; subst e
    split
    · exact h.symm
    · rename_i hl
      rw [List.getElem?_eq_none (by omega)] at h; cases h
  · rfl
theorem gs_frz {st : Stmt} {ρ : List Rv} {M : Mem} {D : DE} {i : Nat} (h : GS X st ρ M { D with nx := fun ρ1 M1 => ∃ Md Mk, M1 = Md ++ Mk ∧ ((ρ1[i]? = none ∧ D.nx ρ1 Mk) ∨ ∃ r d r', ρ1[i]? = some r ∧ r.isAny = false ∧ FzOk M1 Md r d ∧ (∀ (K : Frg) (B : Hp) (v : V), Dp K B v d → RvOk K B v r') ∧ D.nx (ρ1.set i r') Mk) }) : GS X st ρ M D := fun B H σ ok env tk => by
  refine sS_mono (h B H σ ok env tk) ⟨fun σ' H1 => ?_, fun _ _ z => z, fun _ _ z => z, fun _ _ z => z⟩
  rintro ⟨B1, M1, ρ1, o1, f1, e1, Md, Mk, e, z⟩
  subst e
  rcases z with ⟨hn, k⟩ | ⟨r, d, r', hi, ha, hf, hu, k⟩
  · exact ⟨Bz B1 H1 Md, Mk, ρ1, (bz_ok o1).1, f1.trans (bz_ok o1).2, env_mono (bz_same o1) e1, k⟩
  · obtain ⟨v, g1, g2⟩ := env_get i e1 hi ha
    have q := hu _ _ _ (hf _ _ _ _ o1 g2)
    have e2 := env_set (.some q) i (env_mono (bz_same o1) e1)
    rw [set_self g1] at e2
    exact ⟨Bz B1 H1 Md, Mk, _, (bz_ok o1).1, f1.trans (bz_ok o1).2, e2, k⟩
theorem SRel.inj {as : List Addr} {o : Option Vl} {r r' : Rv} (a : SRel as o r) (b : SRel as o r') : r = r' := by
  cases a with
  | none => cases b; rfl
  | some a => cases b with | some b => exact a.inj b
theorem ERel.inj {as : List Addr} : ∀ {ρ : Ev} {r r' : List Rv}, ERel as ρ r → ERel as ρ r' → r = r'
  | _, _, _, .nil, .nil => rfl
  | _, _, _, .cons a b, .cons c d => by rw [SRel.inj a c, ERel.inj b d]
theorem ERel.set_inj {as as1 : List Addr} (pre : as <+: as1) {o : Option Vl} {r' : Rv} : ∀ {ρE : Ev} {ρ ρ2 : List Rv} (i : Nat), ERel as ρE ρ → ERel as1 (ρE.set i o) ρ2 → ρ2.set i r' = ρ.set i r'
  | _, _, _, i, .nil, h => by cases h; rfl
  | _, _, _, 0, .cons a b, h => by
    cases h with | cons c d => rw [List.set_cons_zero, List.set_cons_zero, ERel.inj (b.mono pre) d]
  | _, _, _, i + 1, .cons a b, h => by
    cases h with | cons c d => rw [List.set_cons_succ, List.set_cons_succ, SRel.inj (a.mono pre) c, ERel.set_inj pre i b d]
theorem ERel.len {as : List Addr} : ∀ {ρ : Ev} {r : List Rv}, ERel as ρ r → ρ.length = r.length
  | _, _, .nil => rfl
  | _, _, .cons _ b => by rw [List.length_cons, List.length_cons, ERel.len b]
theorem so_setF {st : Stmt} {i : Nat} {v : E} (hs : SoS X C st (.set i v)) : SoS X C st (.set i (.frz v)) := fun as h ρE ρ M D er m p => by
  rw [ex, ev] at p
  refine gs_frz (i := i) (hs as h ρE ρ M _ er m ?_)
  rw [ex]
  cases hv : ev C v ρE h with
  | bad => rw [hv] at p; exact p.elim
  | err z h1 => rw [hv] at p; exact p
  | ok x h1 =>
    rw [hv] at p
    simp only [R.bind, frzV] at p
    split at p
    · rename_i y hy
      split at p
      · rename_i kp
        intro as1 ρ2 M1 pre er2 m1
        have p := p as
        obtain ⟨Md, Mk, e1, mk, hn⟩ := keep_ok pre m m1 kp
        refine ⟨Md, Mk, e1, ?_⟩
        by_cases hi : i < ρE.length
        · obtain ⟨r, g1, g2⟩ := er2.get i (v := x) (by rw [List.getElem?_set_self hi])
          obtain ⟨d, p1, p2⟩ := fz_ok m1 e1 hn 16 hy g2
          obtain ⟨r', u1, u2⟩ := p1.up as
          refine .inr ⟨r, d, r', g1, g2.notAny, p2, u2, ?_⟩
          rw [ERel.set_inj pre i er er2]
          exact p _ Mk List.prefix_rfl (er.set (.some u1) i) mk
        · have hl := er2.len
          rw [List.length_set] at hl
          refine .inl ⟨List.getElem?_eq_none (by omega), ?_⟩
          have e3 := ERel.set_inj pre (r' := .any) i er er2
          rw [List.set_eq_of_length_le (by omega), List.set_eq_of_length_le (by rw [← er.len]; omega)] at e3
          subst e3
          refine p ρ2 Mk List.prefix_rfl ?_ mk
          rw [List.set_eq_of_length_le (by omega)]; exact er
      · exact p.elim
    · exact p.elim
/-! stores that are exchanged -/
theorem swap_len {ts vs : List Expr} {k1 : Nat} {p1 : Pos} {k2 : Nat} {p2 : Pos} (h : swapNo ts vs = true) : ∀ env : Env, swappedStores [.Tuple ts k1 p1] (.Tuple vs k2 p2) env = pure none := by
  intro env
  unfold swapNo at h
  unfold swappedStores
  simp only [Bool.or_eq_true, Bool.not_eq_true'] at h
  dsimp only
  split
  · rfl
  · rename_i h1
    split
    · rfl
    · rename_i h2
      split
      · rfl
      · rename_i h3
        split
        · rfl
        · rename_i h4
          exfalso
          rcases h with h | h
          · simp [h] at h1
          · exact h4 h
theorem swap_few {ts vs : List Expr} {k1 : Nat} {p1 : Pos} {k2 : Nat} {p2 : Pos} (h : ((swapNs c ts).length == ts.length) = false) : swappedStores [.Tuple ts k1 p1] (.Tuple vs k2 p2) (dumE c.sc) = pure none := by
  unfold swappedStores
  dsimp only
  split
  · rfl
  · split
    · rfl
    · split
      · rfl
      · rename_i h3
        exfalso
        refine h3 ?_
        show ((swapNs c ts).length != ts.length || (swapNs c ts).eraseDups.length != (swapNs c ts).length) = true
        simp only [bne, h, Bool.not_false, Bool.true_or]
theorem swap_tup {ts : List Expr} {e : Expr} {k1 : Nat} {p1 : Pos} (h : notTup e = true) (env : Env) : swappedStores [.Tuple ts k1 p1] e env = pure none := by
  cases e <;> first | rfl | cases h
theorem swap_yes {ts vs : List Expr} {k1 : Nat} {p1 : Pos} {k2 : Nat} {p2 : Pos} (h : swapOk c ts vs = true) : swappedStores [.Tuple ts k1 p1] (.Tuple vs k2 p2) (dumE c.sc) = pure (some (swapNs c ts)) := by
  unfold swapOk at h
  simp only [Bool.and_eq_true, decide_eq_true_eq, Bool.not_eq_true'] at h
  obtain ⟨⟨⟨⟨⟨⟨⟨h1, h2⟩, h3⟩, h4⟩, h5⟩, h6⟩, h7⟩, h8⟩ := h
  unfold swappedStores
  dsimp only
  have hs : (vs.any fun x => match x with | .Starred _ _ => true | _ => false) = false := by
    rw [List.any_eq_false]
    intro x hx
    have := all_star h4 x hx
    cases x <;> first | (intro z; cases z; done) | cases this
  have bk : (dumE c.sc).blockKind = .function := by
    unfold Env.blockKind
    show (if c.sc.kind.isAnnotationScope = true then ScopeKind.function else c.sc.kind) = _
    rw [h3]; rfl
  refine (if_neg ?_).trans ((if_neg ?_).trans ((if_neg ?_).trans ((if_neg ?_).trans ((if_neg ?_).trans rfl))))
  · rw [h1, bk]
    simp only [bne, h2]
    decide
  · intro z
    exact Bool.noConfusion (hs.symm.trans z)
  · show ¬ ((swapNs c ts).length != ts.length || (swapNs c ts).eraseDups.length != (swapNs c ts).length) = true
    simp only [bne, h5, h6]
    decide
  · rw [h7]; decide
  · rw [h8]; decide
/-! for -/
theorem for_run (x : Ctx X c C k) (hb : c.blk = false) {tg : Expr} {t : Tg} {body : List Stmt} {vb : List S} {W : Watch} {S : Mem → Prop} {D : DE} (ht : cTg c tg = some t) (hbody : SoSs X C body vb) :
    ∀ (items : List Vl) (rs : List Rv) as h ρE ρ M, RelL as items rs → ERel as ρE ρ → MOk as h M → (∀ as2 h2 M2, as <+: as2 → MOk as2 h2 M2 → Still W h2 → S M2) →
      PS X.mg as (forV (fun ρ h => exs C vb ρ h) t W items ρE h) D → ForW X tg body D S rs ρ M := by
  intro items
  have g := so_tg x tg t ht
  rw [(x.fn hb).2] at g
  induction items with
  | nil =>
    intro rs as h ρE ρ M rl er m st p
    cases rl
    rw [forV] at p
    split at p
    · rename_i hst
      exact ⟨st as h M List.prefix_rfl m hst, p as ρ M List.prefix_rfl er m⟩
    · exact p.elim
  | cons a items ih =>
    intro rs as h ρE ρ M rl er m st p
    cases rl with
    | cons ra rl =>
      rw [forV] at p
      split at p
      · rename_i hst
        refine ⟨st as h M List.prefix_rfl m hst, ?_⟩
        split at p
        · exact p.elim
        · rename_i ρ1 e1
          refine g as a _ ρE ρ1 ρ M _ ra er e1 fun ρ' er' => ?_
          refine hbody as h ρ1 ρ' M _ er' m ?_
          have nxt : ∀ ρ2 h2, PS X.mg as (forV (fun ρ h => exs C vb ρ h) t W items ρ2 h2) D → ∀ as' ρ2' M', as <+: as' → ERel as' ρ2 ρ2' → MOk as' h2 M' → ForW X tg body D S _ ρ2' M' := fun ρ2 h2 z as' ρ2' M' pre er2 m2 =>
            ih _ as' h2 ρ2 ρ2' M' (rl.mono pre) er2 m2 (fun as3 h3 M3 pre3 => st as3 h3 M3 (pre.trans pre3)) (z.mono pre)
          cases eb : exs C vb ρ1 h with
          | next ρ2 h2 => simp only [eb] at p; exact nxt ρ2 h2 p
          | cont ρ2 h2 => simp only [eb] at p; exact nxt ρ2 h2 p
          | brk ρ2 h2 => simp only [eb] at p; exact p
          | ret v h2 => simp only [eb] at p; exact p
          | err z ρ2 h2 => simp only [eb] at p; exact p
          | bad => simp only [eb] at p; exact p.elim
      · exact p.elim
theorem evs_len {C : Str → List Vl → Mm → R Vl} : ∀ {es : List E} {ρE : Ev} {h h1 : Mm} {us : List Vl}, evs C es ρE h = .ok us h1 → us.length = es.length
  | [], ρE, h, h1, us, e => by rw [evs] at e; cases e; rfl
  | a :: es, ρE, h, h1, us, e => by
    rw [evs] at e
    cases e1 : ev C a ρE h with
    | ok v g =>
      rw [e1] at e
      simp only [R.bind] at e
      cases e2 : evs C es ρE g with
      | ok vs g2 => rw [e2] at e; simp only [R.bind] at e; cases e; rw [List.length_cons, List.length_cons, evs_len e2]
      | err _ _ => rw [e2] at e; cases e
      | bad => rw [e2] at e; cases e
    | err _ _ => rw [e1] at e; cases e
    | bad => rw [e1] at e; cases e
theorem swap_one {l : Nat} {n : Str} {pp : Pos} {rest : List Expr} (h : ((Expr.Name n pp :: rest).filterMap (swapF c l)).length = rest.length + 1) : (Expr.Name n pp :: rest).filterMap (swapF c l) = n :: rest.filterMap (swapF c l) ∧ c.sc.names.lookup n = some .local := by
  have le := List.length_filterMap_le (swapF c l) rest
  rw [List.filterMap_cons] at h ⊢
  have e : swapF c l (.Name n pp) = if c.sc.names.lookup n == some .local && pp.line == l then some n else none := rfl
  rw [e] at h ⊢
  by_cases hc : (c.sc.names.lookup n == some .local && pp.line == l) = true
  · rw [if_pos hc]
    simp only [Bool.and_eq_true, beq_iff_eq] at hc
    exact ⟨rfl, hc.1⟩
  · rw [if_neg hc] at h
    simp only at h
    omega
theorem dups_two {a b : Str} (h : ([a, b].eraseDups.length == [a, b].length) = true) : a ≠ b := by
  intro e
  subst e
  simp [List.eraseDups_cons] at h
theorem dups_three {a b d : Str} (h : ([a, b, d].eraseDups.length == [a, b, d].length) = true) : a ≠ b ∧ a ≠ d ∧ b ≠ d := by
  refine ⟨fun e => ?_, fun e => ?_, fun e => ?_⟩
  · subst e
    by_cases e : d = a
    · subst e; simp [List.eraseDups_cons] at h
    · simp [List.eraseDups_cons, e] at h
  · subst e
    by_cases e : b = a
    · subst e; simp [List.eraseDups_cons] at h
    · simp [List.eraseDups_cons, e] at h
  · subst e
    by_cases e : b = a
    · subst e; simp [List.eraseDups_cons] at h
    · simp [List.eraseDups_cons, e] at h
/-- a, b = c, d -/
theorem so_par2 (x : Ctx X c C k) (hb : c.blk = false) {n1 n2 : Str} {i j : Nat} {a b : Expr} {va vb : E} {kt k2 : Nat} {px py pt pt2 p : Pos} (hi : slotW c n1 = some i) (hj : slotW c n2 = some j) (hsw : swapOk c [.Name n1 px, .Name n2 py] [a, b] = true) (ha : SoE X C a va) (hbb : SoE X C b vb) :
    SoS X C (.Assign [.Tuple [.Name n1 px, .Name n2 py] kt pt] (.Tuple [a, b] k2 pt2) p) (.par [i, j] [va, vb]) := fun as h ρE ρ M D er m p => by
  have sw := swap_yes (k1 := kt) (p1 := pt) (k2 := k2) (p2 := pt2) hsw
  rw [← swap_scope (e1 := X.env) (e2 := dumE c.sc) x.sc] at sw
  have hsw' := hsw
  unfold swapOk at hsw'
  simp only [Bool.and_eq_true, decide_eq_true_eq, Bool.not_eq_true'] at hsw'
  obtain ⟨⟨⟨⟨⟨⟨⟨h1, h2⟩, h3⟩, h4⟩, h5⟩, h6⟩, h7⟩, h8⟩ := hsw'
  have st := all_star h4
  have nm : swapNs c [.Name n1 px, .Name n2 py] = [n1, n2] ∧ c.sc.names.lookup n1 = some .local ∧ c.sc.names.lookup n2 = some .local := by
    have h5 : (swapNs c [.Name n1 px, .Name n2 py]).length = 2 := by simpa using h5
    unfold swapNs at h5 ⊢
    generalize (Option.map (fun x : Expr => x.pos.line) _).getD 0 = ln at h5 ⊢
    obtain ⟨e1, l1⟩ := swap_one (rest := [.Name n2 py]) h5
    rw [e1] at h5 ⊢
    obtain ⟨e2, l2⟩ := swap_one (rest := []) (by simpa using h5)
    rw [e2]
    exact ⟨rfl, l1, l2⟩
  rw [nm.1] at sw h6
  have v1 := var_of x hb hi
  have v2 := var_of x hb hj
  have hij : i ≠ j := by
    intro e
    subst e
    have e2 := v1.n.symm.trans v2.n
    cases e2
    exact dups_two h6 rfl
  rw [ex] at p
  refine gs_par v1 v2 x.calm x.nd hij (by rw [x.sc]; exact nm.2.1) (by rw [x.sc]; exact nm.2.2) sw (by rw [sole_eq]; exact swap_no rfl) (ga_cons (star_cons (st a (by simp))) (ha as h ρE ρ M _ _ er m ?_))
  have p := ps_bind er p
  rw [evs] at p
  refine (pv_bind p).imp fun as1 u h1 pre q r M1 r1 m1 => ?_
  refine ga_cons (star_cons (st b (by simp))) (hbb as1 h1 ρE ρ M1 _ _ (er.mono pre) m1 ?_)
  have q := pv_bind q
  rw [evs] at q
  refine (pv_bind q).imp fun as2 w h2 pre2 q2 r2 M2 rr2 m2 => ga_nil ⟨r, r2, rfl, ?_⟩
  rw [evs] at q2
  have q2 := q2 as2 List.prefix_rfl as2 List.prefix_rfl
  exact q2 as2 _ M2 List.prefix_rfl (ERel.set (.some rr2) j (ERel.set (.some (r1.mono pre2)) i (er.mono (pre.trans pre2)))) m2
theorem gs_par3 {i j l : Nat} {x y z : Str} {a b d : Expr} {px py pz pt pt2 pos : Pos} {kt k2 : Nat} {ρ : List Rv} {M : Mem} {D : DE} (hx : Var X i x) (hy : Var X j y) (hz : Var X l z) (hc : X.calm = true) (nd : X.N.Nodup) (hij : i ≠ j) (hil : i ≠ l) (hjl : j ≠ l)
    (lx : X.env.scope.names.lookup x = some .local) (ly : X.env.scope.names.lookup y = some .local) (lz : X.env.scope.names.lookup z = some .local)
    (hs : swappedStores [.Tuple [.Name x px, .Name y py, .Name z pz] kt pt] (.Tuple [a, b, d] k2 pt2) X.env = pure (some [x, y, z])) (hw : swapsWithSole [.Tuple [.Name x px, .Name y py, .Name z pz] kt pt] (.Tuple [a, b, d] k2 pt2) pos.line X.env = pure false)
    (h : GA X [a, b, d] ρ M (fun rs M1 => ∃ r q s, rs = [r, q, s] ∧ D.nx (((ρ.set i r).set j q).set l s) M1) D.xx) : GS X (.Assign [.Tuple [.Name x px, .Name y py, .Name z pz] kt pt] (.Tuple [a, b, d] k2 pt2) pos) ρ M D := fun B H σ ok env tk => by
  refine sS_of (ps_par3 hc nd hx.n hy.n hz.n hij hil hjl lx ly lz pa_S hs hw) (args h ok env tk fun vs H1 B1 M1 rs o1 f1 q1 ⟨r, q, s, e, k⟩ => ?_)
  subst e
  cases q1 with
  | cons q1 t => cases t with
    | cons q2 t => cases t with
      | cons q3 t =>
        cases t
        exact ⟨_, _, _, rfl, B1, M1, _, o1, f1, env_set (.some q3) l (env_set (.some q2) j (env_set (.some q1) i (env_mono f1.ex env))), k⟩
theorem so_par3 (x : Ctx X c C k) (hb : c.blk = false) {n1 n2 n3 : Str} {i j l : Nat} {a b d : Expr} {va vb vd : E} {kt k2 : Nat} {px py pz pt pt2 p : Pos} (hi : slotW c n1 = some i) (hj : slotW c n2 = some j) (hl : slotW c n3 = some l) (hsw : swapOk c [.Name n1 px, .Name n2 py, .Name n3 pz] [a, b, d] = true) (ha : SoE X C a va) (hbb : SoE X C b vb) (hd : SoE X C d vd) :
    SoS X C (.Assign [.Tuple [.Name n1 px, .Name n2 py, .Name n3 pz] kt pt] (.Tuple [a, b, d] k2 pt2) p) (.par [i, j, l] [va, vb, vd]) := fun as h ρE ρ M D er m p => by
  have sw := swap_yes (k1 := kt) (p1 := pt) (k2 := k2) (p2 := pt2) hsw
  rw [← swap_scope (e1 := X.env) (e2 := dumE c.sc) x.sc] at sw
  have hsw' := hsw
  unfold swapOk at hsw'
  simp only [Bool.and_eq_true, decide_eq_true_eq, Bool.not_eq_true'] at hsw'
  obtain ⟨⟨⟨⟨⟨⟨⟨h1, h2⟩, h3⟩, h4⟩, h5⟩, h6⟩, h7⟩, h8⟩ := hsw'
  have st := all_star h4
  have nm : swapNs c [.Name n1 px, .Name n2 py, .Name n3 pz] = [n1, n2, n3] ∧ c.sc.names.lookup n1 = some .local ∧ c.sc.names.lookup n2 = some .local ∧ c.sc.names.lookup n3 = some .local := by
    have h5 : (swapNs c [.Name n1 px, .Name n2 py, .Name n3 pz]).length = 3 := by simpa using h5
    unfold swapNs at h5 ⊢
    generalize (Option.map (fun x : Expr => x.pos.line) _).getD 0 = ln at h5 ⊢
    obtain ⟨e1, l1⟩ := swap_one (rest := [.Name n2 py, .Name n3 pz]) h5
    rw [e1] at h5 ⊢
    obtain ⟨e2, l2⟩ := swap_one (rest := [.Name n3 pz]) (by simpa using h5)
    rw [e2] at h5 ⊢
    obtain ⟨e3, l3⟩ := swap_one (rest := []) (by simpa using h5)
    rw [e3]
    exact ⟨rfl, l1, l2, l3⟩
  rw [nm.1] at sw h6
  have v1 := var_of x hb hi
  have v2 := var_of x hb hj
  have v3 := var_of x hb hl
  obtain ⟨d1, d2, d3⟩ := dups_three h6
  have ne : ∀ {p q : Nat} {m1 m2 : Str}, X.N[p]? = some m1 → X.N[q]? = some m2 → m1 ≠ m2 → p ≠ q := fun a b z e => by
    subst e; rw [a] at b; cases b; exact z rfl
  rw [ex] at p
  refine gs_par3 v1 v2 v3 x.calm x.nd (ne v1.n v2.n d1) (ne v1.n v3.n d2) (ne v2.n v3.n d3) (by rw [x.sc]; exact nm.2.1) (by rw [x.sc]; exact nm.2.2.1) (by rw [x.sc]; exact nm.2.2.2) sw (by rw [sole_eq]; exact swap_no rfl) (ga_cons (star_cons (st a (by simp))) (ha as h ρE ρ M _ _ er m ?_))
  have p := ps_bind er p
  rw [evs] at p
  refine (pv_bind p).imp fun as1 u h1 pre q r M1 r1 m1 => ?_
  refine ga_cons (star_cons (st b (by simp))) (hbb as1 h1 ρE ρ M1 _ _ (er.mono pre) m1 ?_)
  have q := pv_bind q
  rw [evs] at q
  refine (pv_bind q).imp fun as2 w h2 pre2 q2 r2 M2 rr2 m2 => ?_
  have q2 := pv_bind q2
  rw [evs] at q2
  refine ga_cons (star_cons (st d (by simp))) (hd as2 h2 ρE ρ M2 _ _ (er.mono (pre.trans pre2)) m2 ((pv_bind q2).imp fun as3 w3 h3 pre3 q3 r3 M3 rr3 m3 => ga_nil ⟨r, r2, r3, rfl, ?_⟩))
  rw [evs] at q3
  have q3 := q3 as3 List.prefix_rfl as3 List.prefix_rfl as3 List.prefix_rfl
  exact q3 as3 _ M3 List.prefix_rfl (ERel.set (.some rr3) l (ERel.set (.some (rr2.mono pre3)) j (ERel.set (.some (r1.mono (pre2.trans pre3))) i (er.mono ((pre.trans pre2).trans pre3))))) m3
end
end IR

set_option Elab.async false
set_option linter.all false
set_option maxRecDepth 100000
set_option maxHeartbeats 4000000
namespace IR
open PySem PySem.Spec PyProof.Rows L2 Dl
section
variable {X : Cx} {c : Cc} {C : Str → List Vl → Mm → R Vl} {k : Nat}
theorem so_setStop {i : Nat} {st : Stmt} : SoS X C st (.set i .stop) := fun as h ρE ρ M D er m p => by
  rw [ex, ev] at p; exact p.elim
theorem so_nil : SoSs X C [] [] := fun as h ρE ρ M D er m p => by
  rw [exs] at p; exact gss_nil (p as ρ M List.prefix_rfl er m)
theorem so_cons {st : Stmt} {ss : List Stmt} {v : S} {vs : List S} (h1 : SoS X C st v) (h2 : SoSs X C ss vs) : SoSs X C (st :: ss) (v :: vs) := fun as h ρE ρ M D er m p => by
  rw [exs] at p
  refine gss_cons (h1 as h ρE ρ M _ er m ?_)
  cases e : ex C v ρE h with
  | next ρ1 h1 => rw [e] at p; exact fun as' ρ2 M' pre er' m' => h2 as' h1 ρ1 ρ2 M' D er' m' (p.mono pre)
  | ret v h1 => rw [e] at p; exact p
  | brk ρ1 h1 => rw [e] at p; exact p
  | cont ρ1 h1 => rw [e] at p; exact p
  | err z ρ1 h1 => rw [e] at p; exact p
  | bad => rw [e] at p; exact p.elim
theorem so_if {t : Expr} {a b : List Stmt} {vt : E} {va vb : List S} {p : Pos} (ht : SoT X C t vt) (ha : SoSs X C a va) (hb : SoSs X C b vb) : SoS X C (.If t a b p) (.ife vt va vb) := fun as h ρE ρ M D er m q => by
  rw [ex] at q
  refine gs_if (ht as h ρE ρ M _ _ er m ((ps_bind er q).imp fun as1 u h1 pre z M1 m1 => ⟨fun e => ?_, fun e => ?_⟩))
  · subst e; exact ha as1 h1 ρE ρ M1 D (er.mono pre) m1 z
  · subst e; exact hb as1 h1 ρE ρ M1 D (er.mono pre) m1 z
theorem so_ret {e : Expr} {v : E} {p : Pos} (he : SoE X C e v) : SoS X C (.Return (some e) p) (.ret v) := fun as h ρE ρ M D er m q => by
  rw [ex] at q
  exact gs_ret (he as h ρE ρ M _ _ er m ((ps_bind er q).imp fun as1 u h1 pre z r M1 r1 m1 => z as1 r M1 List.prefix_rfl r1 m1))
theorem so_retN {p : Pos} : SoS X C (.Return none p) .retN := fun as h ρE ρ M D er m q => by
  rw [ex] at q
  exact gs_retN (q as _ M List.prefix_rfl .non m)
theorem so_expr {e : Expr} {v : E} {p : Pos} (hn : notComp e = true) (he : SoE X C e v) : SoS X C (.Expr e p) (.expr v) := fun as h ρE ρ M D er m q => by
  rw [ex] at q
  exact gs_expr (swap_no hn) (he as h ρE ρ M _ _ er m ((ps_bind er q).imp fun as1 u h1 pre z r M1 r1 m1 => z as1 ρ M1 List.prefix_rfl (er.mono pre) m1))
theorem so_for (x : Ctx X c C k) (hb : c.blk = false) (hp : PassesOwn (model X.prog X.w) X.A X.env X.xe) {tg it : Expr} {t : Tg} {vit : E} {body : List Stmt} {vb : List S} {p : Pos} (ht : cTg c tg = some t) (hs : notSet it = true) (hit : SoI X C tg it vit) (hbody : SoSs X C body vb) :
    SoS X C (.For tg it body [] p) (.forS t vit vb) := fun as h ρE ρ M D er m q => by
  rw [ex] at q
  refine gs_forW hp x.calm (fold_no hs _) (hit as h ρE ρ M _ _ er m ((ps_bind er q).imp fun as1 w h1 pre z rs S M1 rl m1 st => ?_))
  exact for_run x hb ht hbody w.1 rs as1 h1 ρE ρ M1 rl (er.mono pre) m1 st z
theorem tgs_two {n1 n2 : Str} {px py : Pos} {tgs : List Tg} (h : cTgs c [.Name n1 px, .Name n2 py] = some tgs) : ∃ i j, slotW c n1 = some i ∧ slotW c n2 = some j ∧ tgs = [.nm i, .nm j] := by
  simp only [cTgs, cTg] at h
  cases e1 : slotW c n1 with
  | none => simp [e1] at h
  | some i => cases e2 : slotW c n2 with
    | none => simp [e1, e2] at h
    | some j => simp [e1, e2] at h; exact ⟨i, j, rfl, rfl, h.symm⟩
theorem tgs_three {n1 n2 n3 : Str} {px py pz : Pos} {tgs : List Tg} (h : cTgs c [.Name n1 px, .Name n2 py, .Name n3 pz] = some tgs) : ∃ i j l, slotW c n1 = some i ∧ slotW c n2 = some j ∧ slotW c n3 = some l ∧ tgs = [.nm i, .nm j, .nm l] := by
  simp only [cTgs, cTg] at h
  cases e1 : slotW c n1 with
  | none => simp [e1] at h
  | some i => cases e2 : slotW c n2 with
    | none => simp [e1, e2] at h
    | some j => cases e3 : slotW c n3 with
      | none => simp [e1, e2, e3] at h
      | some l => simp [e1, e2, e3] at h; exact ⟨i, j, l, rfl, rfl, rfl, h.symm⟩
theorem so_mV {e : Expr} {r : Cr} (i : Nat) (h : SoAll X c C e r) : SoE X C e (mV c i r) := by
  unfold mV; split
  · exact h.2.2.2
  · exact h.1
theorem so_rV {e : Expr} {r : Cr} (h : SoAll X c C e r) : SoE X C e (rV c r) := by
  unfold rV; split
  · exact h.2.2.2
  · exact h.1
theorem so_L (x : Ctx X c C k) : ∀ es : List Expr, SoL X C es (cEs c es)
  | [] => trivial
  | e :: es => ⟨(snd C k e X c x).1, so_L x es⟩
theorem so_mL (x : Ctx X c C k) : ∀ (es : List Expr) (is : List Nat), es.length = is.length → SoL X C es (mVs c is es)
  | [], [], _ => trivial
  | [], _ :: _, h => by simp at h
  | _ :: _, [], h => by simp at h
  | e :: es, i :: is, h => ⟨so_mV i (snd C k e X c x), so_mL x es is (by simpa using h)⟩
theorem nameE_of {e : Expr} (h : nameE e = true) : ∃ n p, e = .Name n p := by cases e <;> first | exact ⟨_, _, rfl⟩ | cases h
theorem so_tupTup (x : Ctx X c C k) (hb : c.blk = false) {ts vs : List Expr} {k1 k2 : Nat} {p1 p2 p : Pos} : SoS X C (.Assign [.Tuple ts k1 p1] (.Tuple vs k2 p2) p) (cS c (.Assign [.Tuple ts k1 p1] (.Tuple vs k2 p2) p)) := by
  have hc : cS c (.Assign [.Tuple ts k1 p1] (.Tuple vs k2 p2) p) = (match cTgs c ts with
    | some tgs => if swapNo ts vs || !((swapNs c ts).length == ts.length) then (if vs.all notStar then .tset (.tup tgs) (.tup (if ts.all nameE && decide (vs.length = (tgs.filterMap nmOf).length) then mVs c (tgs.filterMap nmOf) vs else cEs c vs)) else .stop)
      else if swapOk c ts vs && ts.all nameE then .par (tgs.filterMap nmOf) (mVs c (tgs.filterMap nmOf) vs)
      else .stop
    | none => .stop) := rfl
  rw [hc]
  cases ht : cTgs c ts with
  | none => exact so_sstop
  | some tgs =>
    dsimp only
    cases h1 : (swapNo ts vs || !((swapNs c ts).length == ts.length)) with
    | true =>
      rw [if_pos rfl]
      have hsw : swappedStores [.Tuple ts k1 p1] (.Tuple vs k2 p2) X.env = pure none := by
        rw [Bool.or_eq_true] at h1
        rcases h1 with h1 | h1
        · exact swap_len h1 _
        · rw [swap_scope (e1 := X.env) (e2 := dumE c.sc) x.sc]
          exact swap_few (by simpa using h1)
      cases hn : vs.all notStar with
      | false => exact so_sstop
      | true =>
        refine so_asg x hb ht rfl hsw ?_
        split
        · rename_i hh
          rw [Bool.and_eq_true, decide_eq_true_eq] at hh
          exact so_tupL x hn (so_mL x vs _ hh.2)
        · exact so_tupL x hn (so_L x vs)
    | false =>
      rw [if_neg (by decide)]
      cases h2 : (swapOk c ts vs && ts.all nameE) with
      | false => exact so_sstop
      | true =>
        rw [if_pos rfl]
        rw [Bool.and_eq_true] at h2
        obtain ⟨h2, h3⟩ := h2
        have h2' := h2
        unfold swapOk at h2'
        simp only [Bool.and_eq_true] at h2'
        have l1 := h2'.1.1.1.1.1.1.1
        have l2 := h2'.1.1.1.1.1.1.2
        rcases ts with _ | ⟨t1, _ | ⟨t2, _ | ⟨t3, _ | ⟨t4, ts⟩⟩⟩⟩
        · simp at l1
        · simp at l1
        · rcases vs with _ | ⟨a, _ | ⟨b, _ | ⟨d, vs⟩⟩⟩
          · simp at l2
          · simp at l2
          · simp only [List.all_cons, List.all_nil, Bool.and_true, Bool.and_eq_true] at h3
            obtain ⟨n1, q1, rfl⟩ := nameE_of h3.1
            obtain ⟨n2, q2, rfl⟩ := nameE_of h3.2
            obtain ⟨i, j, e1, e2, rfl⟩ := tgs_two ht
            exact so_par2 x hb e1 e2 h2 (so_mV i (snd C k a X c x)) (so_mV j (snd C k b X c x))
          · simp at l2
        · rcases vs with _ | ⟨a, _ | ⟨b, _ | ⟨d, _ | ⟨d2, vs⟩⟩⟩⟩
          · simp at l2
          · simp at l2
          · simp at l2
          · simp only [List.all_cons, List.all_nil, Bool.and_true, Bool.and_eq_true] at h3
            obtain ⟨n1, q1, rfl⟩ := nameE_of h3.1
            obtain ⟨n2, q2, rfl⟩ := nameE_of h3.2.1
            obtain ⟨n3, q3, rfl⟩ := nameE_of h3.2.2
            obtain ⟨i, j, l, e1, e2, e3, rfl⟩ := tgs_three ht
            exact so_par3 x hb e1 e2 e3 h2 (so_mV i (snd C k a X c x)) (so_mV j (snd C k b X c x)) (so_mV l (snd C k d X c x))
          · simp at l2
        · simp at l1
theorem so_tupE (x : Ctx X c C k) (hb : c.blk = false) {ts : List Expr} {e : Expr} {k1 : Nat} {p1 p : Pos} (hc : cS c (.Assign [.Tuple ts k1 p1] e p) = (if notTup e && notComp e then match cTgs c ts with
      | some tgs => .tset (.tup tgs) (cE c e).v
      | none => .stop
    else .stop)) : SoS X C (.Assign [.Tuple ts k1 p1] e p) (cS c (.Assign [.Tuple ts k1 p1] e p)) := by
  rw [hc]
  cases h : (notTup e && notComp e) with
  | false => exact so_sstop
  | true =>
    rw [Bool.and_eq_true] at h
    rw [if_pos rfl]
    cases ht : cTgs c ts with
    | none => exact so_sstop
    | some tgs => exact so_asg x hb ht h.2 (swap_tup h.1 _) (snd C k e X c x).1
theorem so_nameLc (x : Ctx X c C k) (hb : c.blk = false) {n : Str} {elt tg it : Expr} {ifs : List Expr} {scope : Scope} {py pos p : Pos} {i : Nat} (hi : slotW c n = some i)
    (hh : (decide (c.sc.kind = .function) && decide (c.sc.names.lookup n = some .local) && (py.line == pos.line) && !(scope.names.any fun (m, k) => m == n && (k == .local || k == .cell))) = true) :
    SoS X C (.Assign [.Name n py] (.ListComp elt [⟨tg, it, ifs, 0⟩] scope pos) p) (.set i (mV c i (cE c (.ListComp elt [⟨tg, it, ifs, 0⟩] scope pos)))) := by
  have hc : cE c (.ListComp elt [⟨tg, it, ifs, 0⟩] scope pos) = lcC c scope tg it ifs (cE c it).i (cTs (blkOf c scope) ifs) (cE (blkOf c scope) elt).v := rfl
  rw [hc]
  have stop2 : SoS X C (.Assign [.Name n py] (.ListComp elt [⟨tg, it, ifs, 0⟩] scope pos) p) (.set i (mV c i stp)) := by
    unfold mV
    split <;> exact so_setStop
  unfold lcC
  cases ht : cTg (blkOf c scope) tg with
  | none => exact stop2
  | some t =>
    dsimp only
    cases h2 : (blkC c.N c.sc scope (ownC c scope) && !(ownC c scope).isEmpty && notSet it && decide (ifs.length ≤ 1) && itOk (isTup tg) (cE c it).i) with
    | false => exact stop2
    | true =>
      rw [if_pos rfl]
      simp only [Bool.and_eq_true, decide_eq_true_eq, Bool.not_eq_true'] at h2 hh
      obtain ⟨⟨⟨⟨h1, h2⟩, h3⟩, h4⟩, h5⟩ := h2
      obtain ⟨⟨⟨g1, g2⟩, g3⟩, g4⟩ := hh
      have b := x.block scope
      have main := so_setLc (p := p) x hb hi g1 g2 g3 g4 h1 h2 h3 h4 ((snd C k it X c x).2.2.1 tg h5) (fun s H Cc cl fp => so_tg (b s H Cc cl fp) tg t ht) (fun e _ s H Cc cl fp => (snd C k e _ _ (b s H Cc cl fp)).2.1) (fun s H Cc cl fp => (snd C k elt _ _ (b s H Cc cl fp)).1)
      unfold mV Cc.fz
      dsimp only
      split
      · exact main
      · split
        · exact so_setF main
        · exact main
theorem so_pass {p : Pos} : SoS X C (.Pass p) .pass := fun as h ρE ρ M D er m q => by
  rw [ex] at q
  exact gs_pass (q as ρ M List.prefix_rfl er m)
theorem so_brk {p : Pos} : SoS X C (.Break p) .brk := fun as h ρE ρ M D er m q => by
  rw [ex] at q
  exact gs_break (q as ρ M List.prefix_rfl er m)
theorem so_cont {p : Pos} : SoS X C (.Continue p) .cont := fun as h ρE ρ M D er m q => by
  rw [ex] at q
  exact gs_cont (q as ρ M List.prefix_rfl er m)
theorem sndS_n (x : Ctx X c C k) (hb : c.blk = false) (hp : PassesOwn (model X.prog X.w) X.A X.env X.xe) : ∀ n, (∀ st : Stmt, sizeOf st < n → SoS X C st (cS c st)) ∧ (∀ ss : List Stmt, sizeOf ss < n → SoSs X C ss (cSs c ss)) := by
  intro n
  induction n with
  | zero => exact ⟨fun _ h => by omega, fun _ h => by omega⟩
  | succ n ih =>
    refine ⟨fun st hlt => ?_, fun ss hlt => ?_⟩
    · cases st with
      | Assign ts e p =>
        rcases ts with _ | ⟨t, _ | ⟨t2, ts⟩⟩
        · exact so_sstop
        · cases t with
          | Name n py =>
            have hc : cS c (.Assign [.Name n py] e p) = (match slotW c n with
              | some i => if notComp e then .set i (mV c i (cE c e)) else if lcOk c n py e then .set i (mV c i (cE c e)) else .stop
              | none => .stop) := rfl
            rw [hc]
            cases hi : slotW c n with
            | none => exact so_sstop
            | some i =>
              dsimp only
              cases hn : notComp e with
              | true => exact so_set x hb hi hn (so_mV i (snd C k e X c x))
              | false =>
                rw [if_neg (by decide)]
                cases e with
                | ListComp elt gs scope pos =>
                  cases hh : lcOk c n py (.ListComp elt gs scope pos) with
                  | false => exact so_sstop
                  | true =>
                    rw [if_pos rfl]
                    rcases gs with _ | ⟨⟨tg, it, ifs, asy⟩, _ | ⟨g2, gs⟩⟩
                    · cases hh
                    · by_cases ha : asy = 0
                      · subst ha
                        exact so_nameLc x hb hi hh
                      · cases asy with
                        | ofNat z => cases z with
                          | zero => exact absurd rfl ha
                          | succ z => cases hh
                        | negSucc z => cases hh
                    · cases asy with
                      | ofNat z => cases z <;> cases hh
                      | negSucc z => cases hh
                | _ => first | exact so_sstop | cases hn
          | Tuple ts k1 p1 =>
            cases e with
            | Tuple vs k2 p2 => exact so_tupTup x hb
            | _ => exact so_tupE x hb rfl
          | Subscript o i p1 =>
            have hc : cS c (.Assign [.Subscript o i p1] e p) = if notComp e && notSlice i && notTup i then .setix (cE c o).v (cE c i).v (cE c e).v else .stop := rfl
            rw [hc]
            cases h : (notComp e && notSlice i && notTup i) with
            | false => exact so_sstop
            | true =>
              simp only [Bool.and_eq_true] at h
              exact so_setix x h.1.1 h.1.2 (snd C k o X c x).1 (snd C k i X c x).1 (snd C k e X c x).1
          | _ => exact so_sstop
        · cases t <;> first | exact so_sstop | (cases e <;> exact so_sstop)
      | If t a b p =>
        simp at hlt
        exact so_if (snd C k t X c x).2.1 (ih.2 a (by omega)) (ih.2 b (by omega))
      | For tg it body els p =>
        cases els with
        | nil =>
          simp at hlt
          have hc : cS c (.For tg it body [] p) = (match cTg c tg with
            | some t => if notSet it && itOk (isTup tg) (cE c it).i then .forS t (cE c it).i (cSs c body) else .stop
            | none => .stop) := rfl
          rw [hc]
          cases ht : cTg c tg with
          | none => exact so_sstop
          | some t =>
            dsimp only
            cases h : (notSet it && itOk (isTup tg) (cE c it).i) with
            | false => exact so_sstop
            | true =>
              rw [Bool.and_eq_true] at h
              exact so_for x hb hp ht h.1 ((snd C k it X c x).2.2.1 tg h.2) (ih.2 body (by omega))
        | cons a b => exact so_sstop
      | Return v p =>
        cases v with
        | none => exact so_retN
        | some e => exact so_ret (so_rV (snd C k e X c x))
      | Expr e p =>
        have hc : cS c (.Expr e p) = if notComp e then .expr (cE c e).v else .stop := rfl
        rw [hc]
        cases h : notComp e with
        | false => exact so_sstop
        | true => exact so_expr h (snd C k e X c x).1
      | Pass p => exact so_pass
      | Break p => exact so_brk
      | Continue p => exact so_cont
      | _ => exact so_sstop
    · cases ss with
      | nil => exact so_nil
      | cons s ss =>
        simp at hlt
        exact so_cons (ih.1 s (by omega)) (ih.2 ss (by omega))
theorem sndSs (x : Ctx X c C k) (hb : c.blk = false) (hp : PassesOwn (model X.prog X.w) X.A X.env X.xe) (ss : List Stmt) : SoSs X C ss (cSs c ss) := (sndS_n x hb hp (sizeOf ss + 1)).2 ss (by omega)
end
end IR

set_option Elab.async false
set_option linter.all false
set_option maxRecDepth 100000
set_option maxHeartbeats 4000000
namespace IR
open PySem PySem.Spec PyProof.Rows L2 Dl
structure FnI where
  x : Str
  st : Stmt
  N : List Str
  ps : List Str
  ords : List (List Str)
  mu : List Nat := []
  rm : Bool := false
structure Pg where
  tab : List FnI
  cons : List (Str × Int)
  bts : List Str
  fr : Bool := false
  nf : List Str := []
def Pg.cc (G : Pg) (fi : FnI) : Cc := { N := fi.N, sc := defScope fi.st, vs := [], blk := false, fns := G.tab.map fun g => (g.x, (g.ps, g.ords)), cons := G.cons, bts := G.bts, fr := G.fr, nf := G.nf, mu := fi.mu, rm := fi.rm }
def Pg.fn (G : Pg) (fi : FnI) : Fn := { n := fi.N.length, ps := fi.ps.length, body := cSs (G.cc fi) (defBody fi.st) }
def Pg.at (G : Pg) (x : Str) : Option FnI := G.tab.find? fun g => g.x == x
def Pg.T (G : Pg) : Str → Option Fn := fun x => (G.at x).map G.fn
structure FnWf (fi : FnI) : Prop where
  sc : FnScope fi.N fi.ps (defScope fi.st)
  d : (fi.x == ("__debug__" : Str)) = false
  b1 : ∀ (kV dc pm : Value) (an : Option Addr) (cd ct : Value) (us : List Value), us.length = fi.ps.length → bindArgs (PySem.W.fnOf fi.x fi.x (defArgs fi.st) (defBody fi.st) (defScope fi.st) .none kV dc pm an cd ct) ⟨us, []⟩ = pure (fi.ps.zip us)
  b2 : ∀ (kV dc pm : Value) (an : Option Addr) (cd ct : Value), ∀ ks ∈ fi.ords, ∀ ws : List Value, ws.length = ks.length → bindArgs (PySem.W.fnOf fi.x fi.x (defArgs fi.st) (defBody fi.st) (defScope fi.st) .none kV dc pm an cd ct) ⟨[], ks.zip ws⟩ = pure (fi.ps.zip (pick ks fi.ps ws))
theorem at_lookup {tab : List FnI} {x : Str} {ps : List Str} {ords : List (List Str)} (h : (tab.map fun g => (g.x, (g.ps, g.ords))).lookup x = some (ps, ords)) : ∃ fi, tab.find? (fun g => g.x == x) = some fi ∧ fi.ps = ps ∧ fi.ords = ords ∧ fi.x = x := by
  induction tab with
  | nil => cases h
  | cons g tab ih =>
    rw [List.map_cons, List.lookup_cons] at h
    rw [List.find?_cons]
    by_cases e : g.x = x
    · subst e
      simp only [beq_self_eq_true] at h ⊢
      cases h
      exact ⟨g, rfl, rfl, rfl, rfl⟩
    · have e1 : (x == g.x) = false := by simpa using fun z => e z.symm
      have e2 : (g.x == x) = false := by simpa using e
      rw [e1] at h
      rw [e2]
      exact ih h
section
variable {P : Program} {w : World} {K : Frg} {mg : Str → Option Value} {base : Heap} {G : Pg}
theorem call_arity {T : Str → Option Fn} {f : Str} {fn : Fn} (hT : T f = some fn) {k : Nat} {xs : List Vl} {h : Mm} (hl : xs.length ≠ fn.ps) : call T k f xs h = .bad := by
  cases k with
  | zero => rfl
  | succ k => rw [call, hT]; exact if_neg fun z => hl z.1
theorem fn_step {k : Nat} {fi : FnI} {f : Addr} {fd : FuncData} (hc : ∀ x v, G.cons.lookup x = some v → GloG mg x (.int v)) (hb : ∀ x ∈ G.bts, mg x = none)
    (ih : ∀ x fi, G.at x = some fi → DefG P w K mg base x k fi.ps fi.ords (pdI mg (call G.T k) x fi.ps.length)) (hx : G.at fi.x = some fi) (W : FnWf fi) (F : L2.Fun K fi.x fi.x fi.st f fd) :
    FnD P w K mg base (k + 1) f fd fi.ps (pdI mg (call G.T (k + 1)) fi.x fi.ps.length) := by
    have hT : G.T fi.x = some (G.fn fi) := by unfold Pg.T; rw [hx]; rfl
    have hpre : fi.ps.length ≤ fi.N.length := by
      have := congrArg List.length W.sc.pre
      rw [List.length_take] at this
      omega
    refine Fun.okD (List.replicate (fi.N.length - fi.ps.length) .any) F W.sc (by rw [List.length_replicate]) (by rw [List.all_eq_true]; intro r hr; rw [List.eq_of_mem_replicate hr]; rfl) (fun rs M Φ Ξ q => q.1) ?_
    intro X hP hw hK hmg hbase cx hr rs M Φ Ξ ⟨hl, as, vs, h, rl, m, p⟩
    subst hP hw hK hmg hbase
    have cxx : Ctx X (G.cc fi) (call G.T k) k := by
      refine ⟨cx.hN, cx.sc, cx.nd, cx.calm, cx.gu, hr, fun f ps ords hf => ?_, fun y v e => (hc y v e).glo, hb, fun _ => ⟨cx.fn, rfl⟩⟩
      obtain ⟨fi2, e1, e2, e3, e4⟩ := at_lookup hf
      have d := (ih f fi2 e1).df (Nat.le_refl k)
      rw [e2, e3] at d
      refine ⟨d, fun xs h hne => call_arity (fn := G.fn fi2) (by unfold Pg.T Pg.at; rw [e1]; rfl) (by show _ ≠ fi2.ps.length; rw [e2]; exact hne)⟩
    rw [call, hT] at p
    dsimp only at p
    split at p
    · refine sndSs cxx rfl cx.pass (defBody fi.st) as h _ (rs ++ List.replicate (fi.N.length - fi.ps.length) .any) M _ (ERel.start rl _) m ?_
      show PS X.mg as (exs (call G.T k) (cSs (G.cc fi) (defBody fi.st)) (vs.map some ++ List.replicate (fi.N.length - fi.ps.length) none) h) _
      have e : (G.fn fi).body = cSs (G.cc fi) (defBody fi.st) := rfl
      have e2 : (G.fn fi).n - (G.fn fi).ps = fi.N.length - fi.ps.length := rfl
      rw [e, e2] at p
      cases er : exs (call G.T k) (cSs (G.cc fi) (defBody fi.st)) (vs.map some ++ List.replicate (fi.N.length - fi.ps.length) none) h with
      | next ρ1 h1 => rw [er] at p; exact fun as' ρ2 M' pre _ m' => p as' pre _ M' .non m'
      | ret v h1 => rw [er] at p; exact fun as' r M' pre rr m' => p as' pre r M' rr m'
      | brk ρ1 h1 => rw [er] at p; exact p.elim
      | cont ρ1 h1 => rw [er] at p; exact p.elim
      | err z ρ1 h1 => rw [er] at p; exact fun as' e ρ2 M' pre q _ m' => p as' e M' pre q m'
      | bad => rw [er] at p; exact p.elim
    · exact p.elim
theorem prog_fn (hF : ∀ fi ∈ G.tab, ∃ (f : Addr) (kV dc pm : Value) (an : Option Addr) (cd ct : Value), L2.Fun K fi.x fi.x fi.st f (PySem.W.fnOf fi.x fi.x (defArgs fi.st) (defBody fi.st) (defScope fi.st) .none kV dc pm an cd ct) ∧ mg fi.x = some (.ref f) ∧ PySem.W.keepIn K (.ref f) = true)
    (hW : ∀ fi ∈ G.tab, FnWf fi) (hc : ∀ x v, G.cons.lookup x = some v → GloG mg x (.int v)) (hb : ∀ x ∈ G.bts, mg x = none) :
    ∀ k x fi, G.at x = some fi → DefG P w K mg base x k fi.ps fi.ords (pdI mg (call G.T k) x fi.ps.length) := by
  intro k
  induction k with
  | zero =>
    intro x fi hx
    have hm := List.mem_of_find?_eq_some hx
    have ex : fi.x = x := by simpa using List.find?_some hx
    obtain ⟨f, kV, dc, pm, an, cd, ct, F, h1, h2⟩ := hF fi hm
    have W := hW fi hm
    subst ex
    refine ⟨⟨f, _, ⟨fun rs M Φ Ξ q => q.1, fun A outer s H ar us vs Q E hr hg e0 hb r ⟨B, M, rs, Φ, Ξ, o, a, ⟨_, as, ws, hh, _, _, p⟩, _⟩ => p.elim⟩, h1, h2, W.b1 kV dc pm an cd ct, W.b2 kV dc pm an cd ct⟩, W.d⟩
  | succ k ih =>
    intro x fi hx
    have hm := List.mem_of_find?_eq_some hx
    have ex : fi.x = x := by simpa using List.find?_some hx
    obtain ⟨f, kV, dc, pm, an, cd, ct, F, h1, h2⟩ := hF fi hm
    have W := hW fi hm
    subst ex
    exact ⟨⟨f, _, fn_step hc hb ih hx W F, h1, h2, W.b1 kV dc pm an cd ct, W.b2 kV dc pm an cd ct⟩, W.d⟩
end
def pdLaw (n : Nat) : Prom := fun rs M Φ _ => ∃ ns : List Int, rs = [.d (dI ns)] ∧ ns.length ≤ n ∧ M = [] ∧ ∀ M', Φ (.d (.bool true)) M'
theorem law_mk {l : PySem.W.OpenLaw} {w : World} {K : Frg} {h : Heap} {mg : Str → Option Value} {fa : Addr} {n kk : Nat} {G : Pg} {law : FnI} (X : K.In h) (Gn : h.Ns mainGlobals mg) (hfa : mg "law" = some (.ref fa))
    (hI : ∀ fi ∈ G.tab, FunIn K fi.x fi.x fi.st) (hJ : ∀ p ∈ G.cons, ConIn K p.1 (.int p.2) ∧ (p.1 == ("__debug__" : Str)) = false) (hZ : ∀ x ∈ G.bts, PySem.W.nsIn K mainGlobals x = some none) (hW : ∀ fi ∈ G.tab, FnWf fi)
    (hlaw : G.at "law" = some law) (hps : law.ps = [("script" : Str)]) (hR : ∀ ns : List Int, ns.length ≤ n → ∃ h', call G.T (kk + 1) "law" [.frz ns] [] = .ok (.bl true) h') :
    ∃ fd : FuncData, (∀ (s : Shared) (v : Value), BindsTo s fd ⟨[v], []⟩ [("script", v)]) ∧ ∀ base : Heap, K.In base → base.Ns mainGlobals mg → FnD l.prog w K mg base (kk + 1) fa fd ["script"] (pdLaw n) := by
  have hc : ∀ x v, G.cons.lookup x = some v → GloG mg x (.int v) := fun x v e => by
    have hm : (x, v) ∈ G.cons := by
      have : ∀ (xs : List (Str × Int)), xs.lookup x = some v → (x, v) ∈ xs := by
        intro xs
        induction xs with
        | nil => intro e; cases e
        | cons a xs ih =>
          intro e
          rw [List.lookup_cons] at e
          by_cases z : x = a.1
          · subst z; simp only [beq_self_eq_true] at e; cases e; simp
          · have z' : (x == a.1) = false := by simpa using z
            rw [z'] at e
            exact List.mem_cons_of_mem _ (ih e)
      exact this _ e
    obtain ⟨j, d⟩ := hJ _ hm
    exact j.glo X Gn d
  have hF : ∀ fi ∈ G.tab, ∃ (f : Addr) (kV dc pm : Value) (an : Option Addr) (cd ct : Value), L2.Fun K fi.x fi.x fi.st f (PySem.W.fnOf fi.x fi.x (defArgs fi.st) (defBody fi.st) (defScope fi.st) .none kV dc pm an cd ct) ∧ mg fi.x = some (.ref f) ∧ PySem.W.keepIn K (.ref f) = true := fun fi hm => by
    obtain ⟨f, _, _, an, _, kV, dc, pm, cd, ct, a, l, q, kp⟩ := hI fi hm
    exact ⟨f, kV, dc, pm, an, cd, ct, fun_mk (st := fi.st) l q kp, PySem.W.mg_of X Gn a, kp⟩
  have hb : ∀ x ∈ G.bts, mg x = none := fun x hx => PySem.W.mg_none_of X Gn (hZ x hx)
  have ex : law.x = "law" := by simpa using List.find?_some hlaw
  have hm := List.mem_of_find?_eq_some hlaw
  have W := hW law hm
  obtain ⟨f0, _, _, an, _, kV, dc, pm, cd, ct, a0, l0, q0, kp0⟩ := hI law hm
  have F0 := fun_mk (st := law.st) l0 q0 kp0
  have g0 := PySem.W.mg_of X Gn a0
  rw [ex] at g0
  have e := hfa.symm.trans g0
  cases e
  refine ⟨PySem.W.fnOf law.x law.x (defArgs law.st) (defBody law.st) (defScope law.st) .none kV dc pm an cd ct, fun s v => .of_eq ?_, fun base _ _ => ?_⟩
  · have := W.b1 kV dc pm an cd ct [v] (by rw [hps]; rfl)
    rw [hps] at this
    exact this
  · have st := fn_step (P := l.prog) (w := w) (base := base) hc hb (prog_fn hF hW hc hb kk) (by rw [ex]; exact hlaw) W F0
    rw [hps] at st
    refine st.imp fun rs M Φ Ξ ⟨ns, e1, hl, e2, q⟩ => ?_
    subst e1 e2
    obtain ⟨h', eR⟩ := hR ns hl
    refine ⟨rfl, [], [.frz ns], [], .cons (.frz ns) .nil, ⟨[], .nil, rfl, rfl⟩, ?_⟩
    rw [ex, eR]
    intro as' pre r M' rr m'
    cases rr
    exact q M'
end IR

set_option Elab.async false
set_option linter.all false
set_option maxRecDepth 100000
set_option maxHeartbeats 4000000
namespace IR
open PySem PySem.Spec PyProof.Rows L2 Dl
/-! ## what is wished of a run, without errors -/
/-- a mark by which a rest of a run is not looked into -/
def Hid {β : Type} (_ : β) : Type := Unit
def R.wp {α : Type} (r : R α) (Q : α → Mm → Prop) (_ : Hid Q := ()) : Prop := match r with
  | .ok a h => Q a h
  | _ => False
structure Sk where
  nx : Ev → Mm → Prop
  rt : Vl → Mm → Prop
  bk : Ev → Mm → Prop
  ct : Ev → Mm → Prop
def RS.wp (r : RS) (D : Sk) (_ : Hid D := ()) : Prop := match r with
  | .next ρ h => D.nx ρ h
  | .ret v h => D.rt v h
  | .brk ρ h => D.bk ρ h
  | .cont ρ h => D.ct ρ h
  | _ => False
/-- a test -/
theorem wp_ext {α : Type} {r : R α} {Q Q' : α → Mm → Prop} (h : ∀ a m, Q a m = Q' a m) : r.wp Q = r.wp Q' := by
  have e : Q = Q' := by funext a m; exact h a m
  subst e; rfl
def Br (b : Bool) (A B : Prop) (_ : Hid (A, B) := ()) : Prop := match b with
  | true => A
  | false => B
theorem br_mk {b : Bool} {A B : Prop} (h1 : b = true → A) (h2 : b = false → B) : Br b A B := by
  cases b
  · exact h2 rfl
  · exact h1 rfl
theorem br_t {A B : Prop} : Br true A B = A := id rfl
theorem br_f {A B : Prop} : Br false A B = B := id rfl
section
variable {α β : Type} {C : Str → List Vl → Mm → R Vl} {ρ : Ev} {h : Mm} {Q : Vl → Mm → Prop} {QB : Bool → Mm → Prop} {D : Sk}
theorem wp_ok {a : α} {Q : α → Mm → Prop} : (R.ok a h).wp Q = Q a h := id rfl
theorem wp_bind {r : R α} {f : α → Mm → R β} {Q : β → Mm → Prop} : (r.bind f).wp Q = r.wp fun a h => (f a h).wp Q := by
  cases r <;> rfl
theorem wp_bindS {r : R α} {f : α → Mm → RS} : (r.bindS ρ f).wp D = r.wp fun a h => (f a h).wp D := by
  cases r <;> rfl
theorem wp_mono {r : R α} {Q Q' : α → Mm → Prop} (p : r.wp Q) (k : ∀ a h, Q a h → Q' a h) : r.wp Q' := by
  cases r with
  | ok a h => exact k _ _ p
  | _ => exact p
theorem wp_next : (RS.next ρ h).wp D = D.nx ρ h := id rfl
theorem wp_ret {v : Vl} : (RS.ret v h).wp D = D.rt v h := id rfl
theorem wp_brk : (RS.brk ρ h).wp D = D.bk ρ h := id rfl
theorem wp_cont : (RS.cont ρ h).wp D = D.ct ρ h := id rfl
theorem wp_if {c : Prop} [Decidable c] {a b : R α} {Q : α → Mm → Prop} : (if c then a else b).wp Q = Br (decide c) (a.wp Q) (b.wp Q) := by
  by_cases hc : c
  · rw [if_pos hc, decide_eq_true hc]; rfl
  · rw [if_neg hc, decide_eq_false hc]; rfl
theorem wp_guard {c : Prop} [Decidable c] {a : R α} {Q : α → Mm → Prop} (hc : c) : (if c then a else .bad).wp Q = a.wp Q := by rw [if_pos hc]
/-! expressions -/
theorem w_int {i : Int} : (ev C (.int i) ρ h).wp Q = Q (.int i) h := id rfl
theorem w_bl {i : Bool} : (ev C (.bl i) ρ h).wp Q = Q (.bl i) h := id rfl
theorem w_non : (ev C .non ρ h).wp Q = Q .non h := id rfl
theorem w_str {i : Str} : (ev C (.str i) ρ h).wp Q = Q (.str i) h := id rfl
/-- a slot -/
def At (ρ : Ev) (i : Nat) (Q : Vl → Prop) (_ : Hid Q := ()) : Prop := match ρ[i]? with
  | some (some v) => Q v
  | _ => False
theorem at_z {o : Vl} {Q : Vl → Prop} : At (some o :: ρ) 0 Q = Q o := id rfl
theorem at_s {o : Option Vl} {i : Nat} {Q : Vl → Prop} : At (o :: ρ) (i + 1) Q = At ρ i Q := id rfl
theorem w_loc {i : Nat} : (ev C (.loc i) ρ h).wp Q = At ρ i fun v => Q v h := by
  unfold At; rw [ev]
  generalize ρ[i]? = o
  rcases o with _ | _ | v <;> rfl
theorem w_bin {o : Op} {a b : E} : (ev C (.bin o a b) ρ h).wp Q = (ev C a ρ h).wp fun x h1 => (ev C b ρ h1).wp fun y h2 => (binV o x y h2).wp Q := by rw [ev, wp_bind]; exact wp_ext fun x h1 => wp_bind
theorem w_cmp {o : Cp} {a b : E} : (ev C (.cmp o a b) ρ h).wp Q = (ev C a ρ h).wp fun x h1 => (ev C b ρ h1).wp fun y h2 => (cmpV o x y h2).wp Q := by rw [ev, wp_bind]; exact wp_ext fun x h1 => wp_bind
/-- a bool, then on -/
def OnB (v : Vl) (Q : Bool → Prop) (_ : Hid Q := ()) : Prop := match v with
  | .bl b => Q b
  | _ => False
theorem onB_bl {b : Bool} {Q : Bool → Prop} : OnB (.bl b) Q = Q b := id rfl
def OnI (v : Vl) (Q : Int → Prop) (_ : Hid Q := ()) : Prop := match v with
  | .int b => Q b
  | _ => False
theorem onI_int {b : Int} {Q : Int → Prop} : OnI (.int b) Q = Q b := id rfl
theorem w_chain {o p : Cp} {a b c : E} : (ev C (.chain o p a b c) ρ h).wp Q = (ev C a ρ h).wp fun x h1 => (ev C b ρ h1).wp fun y h2 => (cmpV o x y h2).wp fun r h3 => OnB r fun t => Br t ((ev C c ρ h3).wp fun z h4 => (cmpV p y z h4).wp Q) (Q (.bl false) h3) := by
  rw [ev, wp_bind]
  refine wp_ext fun x h1 => ?_
  rw [wp_bind]
  refine wp_ext fun y h2 => ?_
  rw [wp_bind]
  refine wp_ext fun r h3 => ?_
  cases r with
  | bl t => cases t <;> simp only [OnB, Br, wp_bind, wp_ok]
  | _ => rfl
theorem w_and {a b : E} : (ev C (.and a b) ρ h).wp Q = (ev C a ρ h).wp fun x h1 => OnB x fun t => Br t ((ev C b ρ h1).wp Q) (Q (.bl false) h1) := by
  rw [ev, wp_bind]
  refine wp_ext fun x h1 => ?_
  cases x with
  | bl t => cases t <;> rfl
  | _ => rfl
theorem w_or {a b : E} : (ev C (.or a b) ρ h).wp Q = (ev C a ρ h).wp fun x h1 => OnB x fun t => Br t (Q (.bl true) h1) ((ev C b ρ h1).wp Q) := by
  rw [ev, wp_bind]
  refine wp_ext fun x h1 => ?_
  cases x with
  | bl t => cases t <;> rfl
  | _ => rfl
theorem w_not {a : E} : (ev C (.not a) ρ h).wp Q = (ev C a ρ h).wp fun x h1 => OnB x fun t => Q (.bl (!t)) h1 := by
  rw [ev, wp_bind]
  refine wp_ext fun x h1 => ?_
  cases x <;> rfl
theorem w_neg {a : E} : (ev C (.neg a) ρ h).wp Q = (ev C a ρ h).wp fun x h1 => OnI x fun t => Q (.int (-t)) h1 := by
  rw [ev, wp_bind]
  refine wp_ext fun x h1 => ?_
  cases x <;> rfl
theorem w_ite {c a b : E} : (ev C (.ite c a b) ρ h).wp Q = (tv C c ρ h).wp fun t h1 => Br t ((ev C a ρ h1).wp Q) ((ev C b ρ h1).wp Q) := by
  rw [ev, wp_bind]
  refine wp_ext fun x h1 => ?_
  cases x <;> rfl
theorem w_tup {es : List E} : (ev C (.tup es) ρ h).wp Q = (evs C es ρ h).wp fun xs h1 => xs.length ≤ sizeLine ∧ Q (.tup xs) h1 := by
  rw [ev, wp_bind]
  refine wp_ext fun x h1 => ?_
  by_cases hc : x.length ≤ sizeLine
  · rw [if_pos hc]; simp [wp_ok, hc]
  · rw [if_neg hc]; simp [R.wp, hc]
/-- a new cell -/
def Nw (h : Mm) (xs : List Vl) (Q : Nat → Mm → Prop) (_ : Hid Q := ()) : Prop := Q h.length (h ++ [xs])
theorem w_lst {es : List E} : (ev C (.lst es) ρ h).wp Q = (evs C es ρ h).wp fun xs h1 => xs.length ≤ sizeLine ∧ Nw h1 xs fun p h2 => Q (.cell p) h2 := by
  rw [ev, wp_bind]
  refine wp_ext fun x h1 => ?_
  by_cases hc : x.length ≤ sizeLine
  · rw [if_pos hc]; simp [wp_ok, hc, Nw]
  · rw [if_neg hc]; simp [R.wp, hc]
theorem w_ix {a b : E} : (ev C (.ix a b) ρ h).wp Q = (ev C a ρ h).wp fun x h1 => (ev C b ρ h1).wp fun y h2 => (ixV x y h2).wp Q := by rw [ev, wp_bind]; exact wp_ext fun x h1 => wp_bind
theorem w_slice {a : E} {lo hi : Option E} : (ev C (.slice a lo hi) ρ h).wp Q = (ev C a ρ h).wp fun x h1 => (evo C lo ρ h1).wp fun l h2 => (evo C hi ρ h2).wp fun u h3 => (sliceV x l u h3).wp Q := by rw [ev, wp_bind]; exact wp_ext fun x h1 => by rw [wp_bind]; exact wp_ext fun l h2 => wp_bind
theorem w_o0 {Q : Option Int → Mm → Prop} : (evo C none ρ h).wp Q = Q none h := by rw [evo]; rfl
theorem w_o1 {e : E} {Q : Option Int → Mm → Prop} : (evo C (some e) ρ h).wp Q = (ev C e ρ h).wp fun x h1 => OnI x fun i => Q (some i) h1 := by
  rw [evo, wp_bind]
  refine wp_ext fun x h1 => ?_
  cases x <;> rfl
theorem w_call {f : Str} {es : List E} : (ev C (.call f es) ρ h).wp Q = (evs C es ρ h).wp fun xs h1 => (C f xs h1).wp Q := by rw [ev, wp_bind]
theorem w_callk {f : Str} {es : List E} {pm : List Nat} : (ev C (.callk f es pm) ρ h).wp Q = (evs C es ρ h).wp fun xs h1 => (C f (pm.map fun i => xs.getD i .non) h1).wp Q := by rw [ev, wp_bind]
theorem w_bi {b : Bi} {es : List E} : (ev C (.bi b es) ρ h).wp Q = (evs C es ρ h).wp fun xs h1 => (biV b xs h1).wp Q := by rw [ev, wp_bind]
theorem w_isi {e : E} {t : IR.Ty} : (ev C (.isi e t) ρ h).wp Q = (ev C e ρ h).wp fun x h1 => Q (.bl (isiV x t)) h1 := by rw [ev, wp_bind]; rfl
/-- a list that may change, then on -/
def OnC (v : Vl) (Q : Nat → Prop) (_ : Hid Q := ()) : Prop := match v with
  | .cell b => Q b
  | _ => False
theorem onC_cell {b : Nat} {Q : Nat → Prop} : OnC (.cell b) Q = Q b := id rfl
theorem w_app {o e : E} : (ev C (.app o e) ρ h).wp Q = (ev C o ρ h).wp fun x h1 => OnC x fun n => (ev C e ρ h1).wp fun y h2 => (appV n y h2).wp Q := by
  rw [ev, wp_bind]
  refine wp_ext fun x h1 => ?_
  cases x with
  | cell n => simp only [OnC, wp_bind]
  | _ => rfl
theorem w_lc {tg : Tg} {it elt : E} {ifs : List E} {vs : List Nat} : (ev C (.lc tg it ifs elt vs) ρ h).wp Q = (evIt C it ρ h).wp fun p h1 => (lcV (fun ρ h => tvL C ifs ρ h) (fun ρ h => ev C elt ρ h) tg p.2 (wipeE ρ vs) p.1 [] h1).wp Q := by rw [ev, wp_bind]
theorem w_nil {Q : List Vl → Mm → Prop} : (evs C [] ρ h).wp Q = Q [] h := by rw [evs]; rfl
theorem w_cons {e : E} {es : List E} {Q : List Vl → Mm → Prop} : (evs C (e :: es) ρ h).wp Q = (ev C e ρ h).wp fun x h1 => (evs C es ρ h1).wp fun xs h2 => Q (x :: xs) h2 := by
  rw [evs, wp_bind]; exact wp_ext fun x h1 => by rw [wp_bind]; rfl
/-! tests -/
theorem t_and {a b : E} : (tv C (.and a b) ρ h).wp QB = (tv C a ρ h).wp fun t h1 => Br t ((tv C b ρ h1).wp QB) (QB false h1) := by
  rw [tv, wp_bind]
  refine wp_ext fun x h1 => ?_
  cases x <;> rfl
theorem t_or {a b : E} : (tv C (.or a b) ρ h).wp QB = (tv C a ρ h).wp fun t h1 => Br t (QB true h1) ((tv C b ρ h1).wp QB) := by
  rw [tv, wp_bind]
  refine wp_ext fun x h1 => ?_
  cases x <;> rfl
theorem t_not {a : E} : (tv C (.not a) ρ h).wp QB = (tv C a ρ h).wp fun t h1 => QB (!t) h1 := by
  rw [tv, wp_bind]; rfl
/-- truth, then on -/
def OnT (h : Mm) (v : Vl) (Q : Bool → Prop) (_ : Hid Q := ()) : Prop := match truth h v with
  | some b => Q b
  | none => False
theorem onT_bl {b : Bool} {Q : Bool → Prop} : OnT h (.bl b) Q = Q b := id rfl
theorem onT_non {Q : Bool → Prop} : OnT h .non Q = Q false := id rfl
theorem onT_int {b : Int} {Q : Bool → Prop} : OnT h (.int b) Q = Q (decide (b ≠ 0)) := id rfl
theorem onT_lst {xs : List Vl} {Q : Bool → Prop} : OnT h (.lst xs) Q = Q (!xs.isEmpty) := id rfl
theorem onT_cell {n : Nat} {xs : List Vl} {Q : Bool → Prop} (e : h[n]? = some xs) : OnT h (.cell n) Q = Q (!xs.isEmpty) := by
  unfold OnT; simp only [truth, e, Option.map_some]
theorem t_tru {a : E} : (tv C (.tru a) ρ h).wp QB = (ev C a ρ h).wp fun x h1 => OnT h1 x fun b => QB b h1 := by
  rw [tv, wp_bind]
  refine wp_ext fun x h1 => ?_
  unfold OnT boolOf
  cases truth h1 x <;> rfl
/-! statements -/
theorem s_nil : (exs C [] ρ h).wp D = D.nx ρ h := by rw [exs]; rfl
def Sk.thn (D : Sk) (C : Str → List Vl → Mm → R Vl) (ss : List S) : Sk := ⟨fun ρ1 h1 => (exs C ss ρ1 h1).wp D, D.rt, D.bk, D.ct⟩
theorem s_tnx {ss : List S} : (D.thn C ss).nx ρ h = (exs C ss ρ h).wp D := id rfl
theorem s_trt {ss : List S} {v : Vl} : (D.thn C ss).rt v h = D.rt v h := id rfl
theorem s_tbk {ss : List S} : (D.thn C ss).bk ρ h = D.bk ρ h := id rfl
theorem s_tct {ss : List S} : (D.thn C ss).ct ρ h = D.ct ρ h := id rfl
theorem s_cons {s : S} {ss : List S} : (exs C (s :: ss) ρ h).wp D = (ex C s ρ h).wp (D.thn C ss) := by
  rw [exs]
  cases ex C s ρ h <;> rfl
theorem s_set {i : Nat} {e : E} : (ex C (.set i e) ρ h).wp D = (ev C e ρ h).wp fun x h1 => D.nx (ρ.set i (some x)) h1 := by rw [ex, wp_bindS]; rfl
theorem s_par {is : List Nat} {es : List E} : (ex C (.par is es) ρ h).wp D = (evs C es ρ h).wp fun xs h1 => ∃ ρ1, asgTs (is.map .nm) xs ρ = some ρ1 ∧ D.nx ρ1 h1 := by
  rw [ex, wp_bindS]
  refine wp_ext fun xs h1 => ?_
  cases asgTs (is.map .nm) xs ρ <;> simp [RS.wp]
theorem s_tset {tg : Tg} {e : E} : (ex C (.tset tg e) ρ h).wp D = (ev C e ρ h).wp fun x h1 => ∃ ρ1, asgT tg x ρ = some ρ1 ∧ D.nx ρ1 h1 := by
  rw [ex, wp_bindS]
  refine wp_ext fun xs h1 => ?_
  cases asgT tg xs ρ <;> simp [RS.wp]
theorem s_setix {o i e : E} : (ex C (.setix o i e) ρ h).wp D = (ev C e ρ h).wp fun v h1 => (ev C o ρ h1).wp fun x h2 => (ev C i ρ h2).wp fun y h3 => ∃ h4, setixV x y v h3 = some h4 ∧ D.nx ρ h4 := by
  rw [ex, wp_bindS]
  refine wp_ext fun v h1 => ?_
  rw [wp_bindS]
  refine wp_ext fun x h2 => ?_
  rw [wp_bindS]
  refine wp_ext fun y h3 => ?_
  cases setixV x y v h3 <;> simp [RS.wp]
theorem s_ife {c : E} {a b : List S} : (ex C (.ife c a b) ρ h).wp D = (tv C c ρ h).wp fun t h1 => Br t ((exs C a ρ h1).wp D) ((exs C b ρ h1).wp D) := by
  rw [ex, wp_bindS]
  refine wp_ext fun x h1 => ?_
  cases x <;> rfl
theorem s_for {tg : Tg} {it : E} {body : List S} : (ex C (.forS tg it body) ρ h).wp D = (evIt C it ρ h).wp fun p h1 => (forV (fun ρ h => exs C body ρ h) tg p.2 p.1 ρ h1).wp D := by rw [ex, wp_bindS]
theorem s_ret {e : E} : (ex C (.ret e) ρ h).wp D = (ev C e ρ h).wp fun x h1 => D.rt x h1 := by rw [ex, wp_bindS]; rfl
theorem s_retN : (ex C .retN ρ h).wp D = D.rt .non h := by rw [ex]; rfl
theorem s_expr {e : E} : (ex C (.expr e) ρ h).wp D = (ev C e ρ h).wp fun x h1 => D.nx ρ h1 := by rw [ex, wp_bindS]; rfl
theorem s_pass : (ex C .pass ρ h).wp D = D.nx ρ h := by rw [ex]; rfl
theorem s_brk : (ex C .brk ρ h).wp D = D.bk ρ h := by rw [ex]; rfl
theorem s_cont : (ex C .cont ρ h).wp D = D.ct ρ h := by rw [ex]; rfl
theorem br_sk {b : Bool} {A B : Prop} : Br b A B = ((b = true → A) ∧ (b = false → B)) := by cases b <;> simp [Br]
/-! walks -/
theorem i_over {a : E} {Q : List Vl × Watch → Mm → Prop} : (evIt C (.over a) ρ h).wp Q = (ev C a ρ h).wp fun x h1 => ∃ p, itV h1 x = some p ∧ Q p h1 := by
  rw [evIt, wp_bind]
  refine wp_ext fun x h1 => ?_
  cases itV h1 x <;> simp [R.wp]
theorem i_rng1 {a : E} {Q : List Vl × Watch → Mm → Prop} : (evIt C (.rng1 a) ρ h).wp Q = (ev C a ρ h).wp fun x h1 => OnI x fun j => small j = true ∧ Q (rngV 0 j.toNat, []) h1 := by
  rw [evIt, wp_bind]
  refine wp_ext fun x h1 => ?_
  cases x with
  | int j =>
    simp only [OnI]
    by_cases hc : small j = true
    · rw [if_pos hc]; simp [R.wp, hc]
    · rw [if_neg hc]; simp [R.wp, hc]
  | _ => rfl
theorem i_zip {a b : E} {Q : List Vl × Watch → Mm → Prop} : (evIt C (.zip a b) ρ h).wp Q = (ev C a ρ h).wp fun x h1 => (ev C b ρ h1).wp fun y h2 => ∃ xs ys, seqOf h2 x = some xs ∧ seqOf h2 y = some ys ∧ Q (zipV xs ys, watch h2 x ++ watch h2 y) h2 := by
  rw [evIt, wp_bind]
  refine wp_ext fun x h1 => ?_
  rw [wp_bind]
  refine wp_ext fun y h2 => ?_
  cases seqOf h2 x <;> cases seqOf h2 y <;> simp [R.wp]
theorem i_enum {a : E} {Q : List Vl × Watch → Mm → Prop} : (evIt C (.enum a) ρ h).wp Q = (ev C a ρ h).wp fun x h1 => ∃ xs, seqOf h1 x = some xs ∧ Q (enumV xs, watch h1 x) h1 := by
  rw [evIt, wp_bind]
  refine wp_ext fun x h1 => ?_
  cases seqOf h1 x <;> simp [R.wp]
/-! loops, by an invariant -/
theorem for_inv {body : Ev → Mm → RS} {tg : Tg} {W : Watch} {xs : List Vl} (Iv : List Vl → Ev → Mm → Prop) (h0 : Iv [] ρ h) (hst : ∀ pre ρ h, Iv pre ρ h → Still W h)
    (hs : ∀ pre x post ρ h, xs = pre ++ x :: post → Iv pre ρ h → ∃ ρ1, asgT tg x ρ = some ρ1 ∧ (body ρ1 h).wp ⟨Iv (pre ++ [x]), D.rt, D.nx, Iv (pre ++ [x])⟩) (hd : ∀ ρ h, Iv xs ρ h → D.nx ρ h) : (forV body tg W xs ρ h).wp D := by
  have main : ∀ (post pre : List Vl) ρ h, xs = pre ++ post → Iv pre ρ h → (forV body tg W post ρ h).wp D := by
    intro post
    induction post with
    | nil =>
      intro pre ρ h e iv
      rw [List.append_nil] at e; subst e
      rw [forV, if_pos (hst _ _ _ iv)]
      exact hd ρ h iv
    | cons x post ih =>
      intro pre ρ h e iv
      rw [forV, if_pos (hst _ _ _ iv)]
      obtain ⟨ρ1, e1, b⟩ := hs pre x post ρ h e iv
      simp only [e1]
      cases eb : body ρ1 h with
      | next ρ2 h2 => rw [eb] at b; exact ih (pre ++ [x]) ρ2 h2 (by rw [e]; simp) b
      | cont ρ2 h2 => rw [eb] at b; exact ih (pre ++ [x]) ρ2 h2 (by rw [e]; simp) b
      | brk ρ2 h2 => rw [eb] at b; exact b
      | ret v h2 => rw [eb] at b; exact b
      | err _ _ _ => rw [eb] at b; exact b
      | bad => rw [eb] at b; exact b
  exact main xs [] ρ h rfl h0
theorem lc_inv {cond : Ev → Mm → R Bool} {elt : Ev → Mm → R Vl} {tg : Tg} {W : Watch} {xs : List Vl} (Iv : List Vl → List Vl → Mm → Prop) (h0 : Iv [] [] h) (hst : ∀ pre acc h, Iv pre acc h → Still W h ∧ acc.length < sizeLine)
    (hs : ∀ pre x post acc h, xs = pre ++ x :: post → Iv pre acc h → ∃ ρ1, asgT tg x ρ = some ρ1 ∧ (cond ρ1 h).wp fun b h1 => Br b ((elt ρ1 h1).wp fun v h2 => Iv (pre ++ [x]) (acc ++ [v]) h2) (Iv (pre ++ [x]) acc h1)) (hd : ∀ acc h, Iv xs acc h → Nw h acc fun p h2 => Q (.cell p) h2) : (lcV cond elt tg W ρ xs [] h).wp Q := by
  have main : ∀ (post pre acc : List Vl) h, xs = pre ++ post → Iv pre acc h → (lcV cond elt tg W ρ post acc h).wp Q := by
    intro post
    induction post with
    | nil =>
      intro pre acc h e iv
      rw [List.append_nil] at e; subst e
      rw [lcV, if_pos (hst _ _ _ iv).1]
      exact hd acc h iv
    | cons x post ih =>
      intro pre acc h e iv
      rw [lcV, if_pos (hst _ _ _ iv)]
      obtain ⟨ρ1, e1, b⟩ := hs pre x post acc h e iv
      simp only [e1]
      cases eb : cond ρ1 h with
      | ok t h1 =>
        rw [eb] at b
        cases t with
        | false => exact ih (pre ++ [x]) acc h1 (by rw [e]; simp) b
        | true =>
          simp only
          cases ee : elt ρ1 h1 with
          | ok v h2 =>
            have b' : (elt ρ1 h1).wp fun v h2 => Iv (pre ++ [x]) (acc ++ [v]) h2 := b
            rw [ee] at b'
            exact ih (pre ++ [x]) (acc ++ [v]) h2 (by rw [e]; simp) b'
          | err _ _ => have b' : (elt ρ1 h1).wp fun v h2 => Iv (pre ++ [x]) (acc ++ [v]) h2 := b; rw [ee] at b'; exact b'.elim
          | bad => have b' : (elt ρ1 h1).wp fun v h2 => Iv (pre ++ [x]) (acc ++ [v]) h2 := b; rw [ee] at b'; exact b'.elim
      | err _ _ => rw [eb] at b; exact b.elim
      | bad => rw [eb] at b; exact b.elim
  exact main xs [] [] h rfl h0
/-! a def's run -/
theorem call_wp {T : Str → Option Fn} {k : Nat} {f : Str} {fn : Fn} {xs : List Vl} (hT : T f = some fn) (hl : xs.length = fn.ps) (hn : fn.ps ≤ fn.n)
    (hb : (exs (call T k) fn.body (xs.map some ++ List.replicate (fn.n - fn.ps) none) h).wp ⟨fun _ h1 => Q .non h1, Q, fun _ _ => False, fun _ _ => False⟩) : (call T (k + 1) f xs h).wp Q := by
  rw [call, hT]
  show (if xs.length = fn.ps ∧ fn.ps ≤ fn.n then _ else _ : R Vl).wp Q
  rw [if_pos ⟨hl, hn⟩]
  cases e : exs (call T k) fn.body (xs.map some ++ List.replicate (fn.n - fn.ps) none) h <;> (rw [e] at hb; exact hb)
end
end IR

set_option Elab.async false
set_option linter.all false
set_option maxRecDepth 100000
set_option maxHeartbeats 4000000
namespace IR
open PySem PySem.Spec PyProof.Rows L2 Dl
section
variable {C : Str → List Vl → Mm → R Vl} {ρ : Ev} {h : Mm} {Q : Vl → Mm → Prop} {D : Sk} {i j : Int}
theorem br_yes {b : Bool} {A B : Prop} (hb : b = true) (a : A) : Br b A B := by rw [hb]; exact a
theorem br_no {b : Bool} {A B : Prop} (hb : b = false) (a : B) : Br b A B := by rw [hb]; exact a
theorem l_add : binV .add (.int i) (.int j) h = .ok (.int (i + j)) h := id rfl
theorem l_sub : binV .sub (.int i) (.int j) h = .ok (.int (i - j)) h := id rfl
theorem l_mul0 : (binV .mul (.int i) (.int j) h).wp Q = ((wid i && wid j) = true ∧ Q (.int (i * j)) h) := by
  simp only [binV]; split <;> simp_all [R.wp]
theorem l_fdiv0 : (binV .fdiv (.int i) (.int j) h).wp Q = ((decide (0 < j) && big j) = true ∧ Q (.int (i / j)) h) := by
  simp only [binV]; split <;> simp_all [R.wp]
theorem l_mod0 : (binV .mod (.int i) (.int j) h).wp Q = (0 < j ∧ Q (.int (i % j)) h) := by
  simp only [binV]
  by_cases hc : 0 < j
  · rw [if_pos hc]; simp [R.wp, hc]
  · rw [if_neg hc]; simp only [R.wp, hc, false_and]
theorem l_pow0 : (binV .pow (.int i) (.int j) h).wp Q = ((big i && decide (0 ≤ j) && decide (j ≤ 1000)) = true ∧ Q (.int (i ^ j.toNat)) h) := by
  simp only [binV]
  by_cases hc : (big i && decide (0 ≤ j) && decide (j ≤ 1000)) = true
  · rw [if_pos hc]; simp only [R.wp, hc, true_and]
  · rw [if_neg hc]; simp only [R.wp]; exact propext ⟨False.elim, fun z => hc z.1⟩
theorem l_lt : cmpV .lt (.int i) (.int j) h = .ok (.bl (decide (i < j))) h := id rfl
theorem l_le : cmpV .le (.int i) (.int j) h = .ok (.bl (decide (i ≤ j))) h := id rfl
theorem l_gt : cmpV .gt (.int i) (.int j) h = .ok (.bl (decide (j < i))) h := id rfl
theorem l_ge : cmpV .ge (.int i) (.int j) h = .ok (.bl (decide (j ≤ i))) h := id rfl
theorem l_eqI : cmpV .eq (.int i) (.int j) h = .ok (.bl (i == j)) h := id rfl
theorem l_neI : cmpV .ne (.int i) (.int j) h = .ok (.bl (!(i == j))) h := id rfl
theorem l_eqS {s t : Str} : cmpV .eq (.str s) (.str t) h = .ok (.bl (decide (s = t))) h := id rfl
theorem l_neS {s t : Str} : cmpV .ne (.str s) (.str t) h = .ok (.bl (!decide (s = t))) h := id rfl
theorem l_eq {x y : Vl} {d e : PyData} (h1 : snap 8 h x = some d) (h2 : snap 8 h y = some e) (s1 : SeqAt.shaped d = true) (s2 : SeqAt.shaped e = true) (hn : ∀ s t, ¬ (x = .str s ∧ y = .str t) := by intro s t z; cases z.1 <;> cases z.2) : cmpV .eq x y h = .ok (.bl (PyData.eqv d e)) h := by
  have : eqV x y h = some (PyData.eqv d e) := by
    unfold eqV
    split
    · exact absurd ⟨rfl, rfl⟩ (hn _ _)
    · simp only [h1, h2, s1, s2, Bool.and_self, if_true]
  simp only [cmpV, this]
theorem l_ne {x y : Vl} {d e : PyData} (h1 : snap 8 h x = some d) (h2 : snap 8 h y = some e) (s1 : SeqAt.shaped d = true) (s2 : SeqAt.shaped e = true) (hn : ∀ s t, ¬ (x = .str s ∧ y = .str t) := by intro s t z; cases z.1 <;> cases z.2) : cmpV .ne x y h = .ok (.bl (!PyData.eqv d e)) h := by
  have : eqV x y h = some (PyData.eqv d e) := by
    unfold eqV
    split
    · exact absurd ⟨rfl, rfl⟩ (hn _ _)
    · simp only [h1, h2, s1, s2, Bool.and_self, if_true]
  simp only [cmpV, this]
theorem l_isN {x : Vl} : cmpV .is x .non h = .ok (.bl (match x with | .non => true | _ => false)) h := by cases x <;> rfl
theorem l_isnN {x : Vl} : cmpV .isNot x .non h = .ok (.bl (match x with | .non => false | _ => true)) h := by cases x <;> rfl
theorem l_len0 {n : Nat} {xs : List Vl} (e : h[n]? = some xs) : biV .len [.cell n] h = .ok (.int xs.length) h := by
  show (match seqOf h (.cell n) with | some ys => R.ok (Vl.int ys.length) h | none => R.bad) = _
  rw [show seqOf h (.cell n) = some xs from e]
theorem l_lenT {xs : List Vl} : biV .len [.tup xs] h = .ok (.int xs.length) h := id rfl
theorem l_lenF {xs : List Int} : biV .len [.frz xs] h = .ok (.int xs.length) h := by
  show R.ok (Vl.int ((xs.map Vl.int).length : Nat)) h = _
  rw [List.length_map]
theorem l_abs : biV .abs [.int i] h = .ok (.int i.natAbs) h := id rfl
theorem l_max : biV .max [.int i, .int j] h = .ok (.int (max i j)) h := id rfl
theorem l_min : biV .min [.int i, .int j] h = .ok (.int (min i j)) h := id rfl
theorem l_toInt : biV .toInt [.int i] h = .ok (.int i) h := id rfl
theorem l_toIntB {b : Bool} : biV .toInt [.bl b] h = .ok (.int (if b = true then 1 else 0)) h := id rfl
theorem l_list0 {n : Nat} {xs : List Vl} (e : h[n]? = some xs) : (biV .list [.cell n] h).wp Q = Nw h xs fun p h2 => Q (.cell p) h2 := by
  show (match seqOf h (.cell n) with | some ys => R.ok (Vl.cell h.length) (h ++ [ys]) | none => R.bad).wp Q = _
  rw [show seqOf h (.cell n) = some xs from e]; rfl
theorem l_tupC0 {n : Nat} {xs : List Vl} (e : h[n]? = some xs) : biV .tuple [.cell n] h = .ok (.tup xs) h := by
  show (match seqOf h (.cell n) with | some ys => R.ok (Vl.tup ys) h | none => R.bad) = _
  rw [show seqOf h (.cell n) = some xs from e]
theorem l_tupT {xs : List Vl} : biV .tuple [.tup xs] h = .ok (.tup xs) h := id rfl
theorem asInts_map (ns : List Int) : asInts (ns.map .int) = some ns := by
  induction ns with
  | nil => rfl
  | cons a t ih => simp only [List.map_cons, asInts, ih, Option.map_some]
theorem asBools_map (ns : List Bool) : asBools (ns.map .bl) = some ns := by
  induction ns with
  | nil => rfl
  | cons a t ih => simp only [List.map_cons, asBools, ih, Option.map_some]
theorem l_sum0 {n : Nat} {xs : List Int} (e : h[n]? = some (xs.map .int)) : biV .sum [.cell n] h = .ok (.int xs.sum) h := by
  show (match seqOf h (.cell n) with | some ys => (match asInts ys with | some is => R.ok (Vl.int is.sum) h | none => R.bad) | none => R.bad) = _
  rw [show seqOf h (.cell n) = some (xs.map .int) from e]
  simp only [asInts_map]
theorem l_all0 {n : Nat} {xs : List Bool} (e : h[n]? = some (xs.map .bl)) : biV .all [.cell n] h = .ok (.bl (xs.all id)) h := by
  show (match seqOf h (.cell n) with | some ys => (match asBools ys with | some is => R.ok (Vl.bl (is.all id)) h | none => R.bad) | none => R.bad) = _
  rw [show seqOf h (.cell n) = some (xs.map .bl) from e]
  simp only [asBools_map]
theorem l_repr0 {x : Vl} {d : PyData} (hx : (∃ c, x = .cell c) ∨ ∃ xs, x = .tup xs) (e : snap 8 h x = some d) (o : reprOk d = true) : biV .repr [x] h = .ok (.str d.shown) h := by
  rcases hx with ⟨c, rfl⟩ | ⟨xs, rfl⟩
  · show (match snap 8 h (.cell c) with | some d => (if reprOk d then R.ok (Vl.str d.shown) h else R.bad) | none => R.bad) = _
    rw [e]; simp only [o, if_true]
  · show (match snap 8 h (.tup xs) with | some d => (if reprOk d then R.ok (Vl.str d.shown) h else R.bad) | none => R.bad) = _
    rw [e]; simp only [o, if_true]
/-! what a place holds, then on -/
def OnO {α : Type} (o : Option α) (K : α → Prop) (_ : Hid K := ()) : Prop := match o with
  | some x => K x
  | none => False
theorem onO_some {α : Type} {x : α} {K : α → Prop} : OnO (some x) K = K x := id rfl
/-- a new cell; a cell that is changed -/
def Up (h : Mm) (n : Nat) (xs : List Vl) (Q : Mm → Prop) (_ : Hid Q := ()) : Prop := Q (h.set n xs)
/-- a condition, then on -/
def If (b : Bool) (A : Prop) (_ : Hid A := ()) : Prop := b = true ∧ A
theorem if_t {A : Prop} : If true A = A := by simp [If]
theorem if_mk {b : Bool} {A : Prop} (hb : b = true) (a : A) : If b A := ⟨hb, a⟩
theorem l_mul : (binV .mul (.int i) (.int j) h).wp Q = If (wid i && wid j) (Q (.int (i * j)) h) := l_mul0
theorem l_fdiv : (binV .fdiv (.int i) (.int j) h).wp Q = If (decide (0 < j) && big j) (Q (.int (i / j)) h) := l_fdiv0
theorem l_mod : (binV .mod (.int i) (.int j) h).wp Q = If (decide (0 < j)) (Q (.int (i % j)) h) := by rw [l_mod0]; simp [If]
theorem l_pow : (binV .pow (.int i) (.int j) h).wp Q = If (big i && decide (0 ≤ j) && decide (j ≤ 1000)) (Q (.int (i ^ j.toNat)) h) := l_pow0
theorem l_cat {a b : Nat} : (binV .add (.cell a) (.cell b) h).wp Q = OnO h[a]? fun xs => OnO h[b]? fun ys => If (decide (xs.length + ys.length ≤ sizeLine)) (Nw h (xs ++ ys) fun p h2 => Q (.cell p) h2) := by
  simp only [binV]
  cases h[a]? with
  | none => rfl
  | some xs => cases h[b]? with
    | none => rfl
    | some ys =>
      by_cases hc : xs.length + ys.length ≤ sizeLine
      · simp [OnO, If, R.wp, hc, Nw]
      · simp [OnO, If, R.wp, hc]
theorem l_rep {a : Nat} : (binV .mul (.cell a) (.int i) h).wp Q = OnO h[a]? fun xs => If (small i && decide (xs.length * i.toNat ≤ sizeLine)) (Nw h (repL xs i.toNat) fun p h2 => Q (.cell p) h2) := by
  simp only [binV]
  cases h[a]? with
  | none => rfl
  | some xs =>
    dsimp only [OnO]
    by_cases hc : (small i && decide (xs.length * i.toNat ≤ sizeLine)) = true
    · rw [if_pos hc]; simp only [If, hc, true_and]; rfl
    · rw [if_neg hc]; simp only [If, R.wp]; exact propext ⟨False.elim, fun z => hc z.1⟩
theorem w_tup' {es : List E} : (ev C (.tup es) ρ h).wp Q = (evs C es ρ h).wp fun xs h1 => If (decide (xs.length ≤ sizeLine)) (Q (.tup xs) h1) := by
  rw [w_tup]; exact wp_ext fun xs h1 => by simp [If]
theorem w_lst' {es : List E} : (ev C (.lst es) ρ h).wp Q = (evs C es ρ h).wp fun xs h1 => If (decide (xs.length ≤ sizeLine)) (Nw h1 xs fun p h2 => Q (.cell p) h2) := by
  rw [w_lst]; exact wp_ext fun xs h1 => by simp [If]
theorem l_len {n : Nat} : (biV .len [.cell n] h).wp Q = OnO h[n]? fun xs => Q (.int xs.length) h := by
  cases e : h[n]? with
  | some xs => rw [l_len0 e]; rfl
  | none =>
    show (match seqOf h (.cell n) with | some ys => R.ok (Vl.int ys.length) h | none => R.bad).wp Q = _
    rw [show seqOf h (.cell n) = none from e]; rfl
theorem l_list {n : Nat} : (biV .list [.cell n] h).wp Q = OnO h[n]? fun xs => Nw h xs fun p h2 => Q (.cell p) h2 := by
  cases e : h[n]? with
  | some xs => rw [l_list0 e]; rfl
  | none =>
    show (match seqOf h (.cell n) with | some ys => R.ok (Vl.cell h.length) (h ++ [ys]) | none => R.bad).wp Q = _
    rw [show seqOf h (.cell n) = none from e]; rfl
theorem l_tupC {n : Nat} : (biV .tuple [.cell n] h).wp Q = OnO h[n]? fun xs => Q (.tup xs) h := by
  cases e : h[n]? with
  | some xs => rw [l_tupC0 e]; rfl
  | none =>
    show (match seqOf h (.cell n) with | some ys => R.ok (Vl.tup ys) h | none => R.bad).wp Q = _
    rw [show seqOf h (.cell n) = none from e]; rfl
theorem l_sum {n : Nat} : (biV .sum [.cell n] h).wp Q = OnO h[n]? fun xs => OnO (asInts xs) fun is => Q (.int is.sum) h := by
  show (match seqOf h (.cell n) with | some ys => (match asInts ys with | some is => R.ok (Vl.int is.sum) h | none => R.bad) | none => R.bad).wp Q = _
  rw [show seqOf h (.cell n) = h[n]? from rfl]
  cases h[n]? with
  | none => rfl
  | some xs => simp only [OnO]; cases asInts xs <;> rfl
theorem l_all {n : Nat} : (biV .all [.cell n] h).wp Q = OnO h[n]? fun xs => OnO (asBools xs) fun is => Q (.bl (is.all id)) h := by
  show (match seqOf h (.cell n) with | some ys => (match asBools ys with | some is => R.ok (Vl.bl (is.all id)) h | none => R.bad) | none => R.bad).wp Q = _
  rw [show seqOf h (.cell n) = h[n]? from rfl]
  cases h[n]? with
  | none => rfl
  | some xs => simp only [OnO]; cases asBools xs <;> rfl
theorem l_reprC {n : Nat} : (biV .repr [.cell n] h).wp Q = OnO (snap 8 h (.cell n)) fun d => If (reprOk d) (Q (.str d.shown) h) := by
  show (match snap 8 h (.cell n) with | some d => (if reprOk d then R.ok (Vl.str d.shown) h else R.bad) | none => R.bad).wp Q = _
  cases snap 8 h (.cell n) with
  | none => rfl
  | some d => cases hc : reprOk d <;> simp [OnO, If, R.wp, hc]
theorem l_reprT {xs : List Vl} : (biV .repr [.tup xs] h).wp Q = OnO (snap 8 h (.tup xs)) fun d => If (reprOk d) (Q (.str d.shown) h) := by
  show (match snap 8 h (.tup xs) with | some d => (if reprOk d then R.ok (Vl.str d.shown) h else R.bad) | none => R.bad).wp Q = _
  cases snap 8 h (.tup xs) with
  | none => rfl
  | some d => cases hc : reprOk d <;> simp [OnO, If, R.wp, hc]
/-! items -/
theorem l_ixc {n : Nat} : (ixV (.cell n) (.int i) h).wp Q = OnO h[n]? fun xs => OnO (atI xs i) fun v => Q v h := by
  simp only [ixV]
  cases h[n]? with
  | none => rfl
  | some xs => simp only [OnO]; cases atI xs i <;> rfl
theorem l_ixt {xs : List Vl} : (ixV (.tup xs) (.int i) h).wp Q = OnO (atI xs i) fun v => Q v h := by
  simp only [ixV]; cases atI xs i <;> rfl
theorem l_ixf {xs : List Int} : (ixV (.frz xs) (.int i) h).wp Q = OnO (atI xs i) fun v => Q (.int v) h := by
  simp only [ixV]; cases atI xs i <;> rfl
theorem atI_0 {α : Type} {x : α} {xs : List α} : atI (x :: xs) 0 = some x := by
  unfold atI ixN; rw [if_pos (by decide), if_pos (by simp only [List.length_cons]; omega)]; rfl
theorem atI_1 {α : Type} {x y : α} {xs : List α} : atI (x :: y :: xs) 1 = some y := by
  unfold atI ixN; rw [if_pos (by decide), if_pos (by simp only [List.length_cons]; omega)]; rfl
theorem atI_2 {α : Type} {x y z : α} {xs : List α} : atI (x :: y :: z :: xs) 2 = some z := by
  unfold atI ixN; rw [if_pos (by decide), if_pos (by simp only [List.length_cons]; omega)]; rfl
theorem atI_3 {α : Type} {x y z w : α} {xs : List α} : atI (x :: y :: z :: w :: xs) 3 = some w := by
  unfold atI ixN; rw [if_pos (by decide), if_pos (by simp only [List.length_cons]; omega)]; rfl
theorem atI_end {α : Type} {x : α} {xs : List α} : atI (xs ++ [x]) (-1) = some x := atI_last _ _
theorem atI_nat {α : Type} {xs : List α} {k : Nat} (hk : k < xs.length) : atI xs (k : Int) = some xs[k] := by
  rw [at_lit (by omega) (by omega)]; simp
/-- whatever item it is -/
theorem at_any {α : Type} {xs : List α} {k : Int} {K : α → Prop} (h0 : 0 ≤ k) (h1 : k < xs.length) (hk : ∀ v ∈ xs, K v) : OnO (atI xs k) K := by
  rw [at_lit h0 h1]; exact hk _ (List.getElem_mem _)
/-! cells -/
theorem l_app {n : Nat} {v : Vl} : (appV n v h).wp Q = OnO h[n]? fun xs => If (decide (xs.length < sizeLine)) (Up h n (xs ++ [v]) fun h2 => Q .non h2) := by
  simp only [appV]
  cases h[n]? with
  | none => rfl
  | some xs =>
    by_cases hc : xs.length < sizeLine
    · simp [OnO, If, R.wp, hc, Up]
    · simp [OnO, If, R.wp, hc]
theorem s_setix' {o i e : E} : (ex C (.setix o i e) ρ h).wp D = (ev C e ρ h).wp fun v h1 => (ev C o ρ h1).wp fun x h2 => (ev C i ρ h2).wp fun y h3 => OnC x fun n => OnI y fun k => OnO h3[n]? fun xs => OnO (ixN xs.length k) fun j => Up h3 n (xs.set j v) fun h4 => D.nx ρ h4 := by
  rw [s_setix]
  refine wp_ext fun v h1 => ?_
  refine wp_ext fun x h2 => ?_
  refine wp_ext fun y h3 => ?_
  cases x with
  | cell n => cases y with
    | int k =>
      simp only [setixV, OnC, OnI]
      cases h3[n]? with
      | none => simp [OnO]
      | some xs => simp only [OnO]; cases ixN xs.length k <;> simp [Up]
    | _ => simp [setixV, OnC, OnI]
  | _ => cases y <;> simp [setixV, OnC, OnI]
theorem s_par' {is : List Nat} {es : List E} : (ex C (.par is es) ρ h).wp D = (evs C es ρ h).wp fun xs h1 => OnO (asgTs (is.map .nm) xs ρ) fun ρ1 => D.nx ρ1 h1 := by
  rw [s_par]
  refine wp_ext fun xs h1 => ?_
  cases asgTs (is.map .nm) xs ρ <;> simp [OnO]
theorem s_tset' {tg : Tg} {e : E} : (ex C (.tset tg e) ρ h).wp D = (ev C e ρ h).wp fun x h1 => OnO (asgT tg x ρ) fun ρ1 => D.nx ρ1 h1 := by
  rw [s_tset]
  refine wp_ext fun xs h1 => ?_
  cases asgT tg xs ρ <;> simp [OnO]
theorem nw_mk {xs : List Vl} {P : Nat → Mm → Prop} (k : ∀ (p : Nat) (h2 : Mm), h.length = p → h2.length = p + 1 → h2[p]? = some xs → (∀ m : Nat, m < p → h2[m]? = h[m]?) → P p h2) : Nw h xs P := by
  refine k _ _ rfl (by simp) (by simp) (fun n e => ?_)
  rw [List.getElem?_append_left e]
theorem up_mk {n : Nat} {ys : List Vl} {P : Mm → Prop} (e : n < h.length) (k : ∀ h2 : Mm, h2.length = h.length → h2[n]? = some ys → (∀ m : Nat, m ≠ n → h2[m]? = h[m]?) → P h2) : Up h n ys P := by
  refine k _ (by simp) ?_ fun m hm => ?_
  · rw [List.getElem?_set_self e]
  · rw [List.getElem?_set_ne (Ne.symm hm)]
theorem onT_cell' {n : Nat} {Q : Bool → Prop} : OnT h (.cell n) Q = OnO h[n]? fun xs => Q (!xs.isEmpty) := by
  unfold OnT; simp only [truth]; cases h[n]? <;> rfl
theorem onT_tup {xs : List Vl} {Q : Bool → Prop} : OnT h (.tup xs) Q = Q (!xs.isEmpty) := id rfl
/-! walks -/
def itO (h : Mm) (v : Vl) (K : List Vl × Watch → Prop) (_ : Hid K := ()) : Prop := ∃ p, itV h v = some p ∧ K p
theorem itO_cell {n : Nat} {K : List Vl × Watch → Prop} : itO h (.cell n) K = OnO h[n]? fun xs => K (xs, [(n, xs)]) := by
  unfold itO
  simp only [itV, seqOf, watch]
  cases h[n]? <;> simp [OnO]
theorem itO_tup {xs : List Vl} {K : List Vl × Watch → Prop} : itO h (.tup xs) K = K (xs, []) := by simp [itO, itV]
theorem itO_frz {xs : List Int} {K : List Vl × Watch → Prop} : itO h (.frz xs) K = K (xs.map .int, []) := by simp [itO, itV, seqOf, watch]
theorem i_over' {a : E} {QI : List Vl × Watch → Mm → Prop} : (evIt C (.over a) ρ h).wp QI = (ev C a ρ h).wp fun x h1 => itO h1 x fun p => QI p h1 := i_over
theorem i_rng1' {a : E} {QI : List Vl × Watch → Mm → Prop} : (evIt C (.rng1 a) ρ h).wp QI = (ev C a ρ h).wp fun x h1 => OnI x fun j => If (small j) (QI (rngV 0 j.toNat, []) h1) := i_rng1
theorem seq_cell {n : Nat} : seqOf h (.cell n) = h[n]? := id rfl
theorem seq_frz {xs : List Int} : seqOf h (.frz xs) = some (xs.map .int) := id rfl
theorem i_zip' {a b : E} {QI : List Vl × Watch → Mm → Prop} : (evIt C (.zip a b) ρ h).wp QI = (ev C a ρ h).wp fun x h1 => (ev C b ρ h1).wp fun y h2 => OnO (seqOf h2 x) fun xs => OnO (seqOf h2 y) fun ys => QI (zipV xs ys, watch h2 x ++ watch h2 y) h2 := by
  rw [i_zip]
  refine wp_ext fun x h1 => ?_
  refine wp_ext fun y h2 => ?_
  cases seqOf h2 x <;> cases seqOf h2 y <;> simp [OnO]
theorem i_enum' {a : E} {QI : List Vl × Watch → Mm → Prop} : (evIt C (.enum a) ρ h).wp QI = (ev C a ρ h).wp fun x h1 => OnO (seqOf h1 x) fun xs => QI (enumV xs, watch h1 x) h1 := by
  rw [i_enum]
  refine wp_ext fun x h1 => ?_
  cases seqOf h1 x <;> simp [OnO]
theorem watch_cell {n : Nat} : watch h (.cell n) = (match h[n]? with | some xs => [(n, xs)] | none => []) := id rfl
theorem watch_frz {xs : List Int} : watch h (.frz xs) = [] := id rfl
theorem l_slice {n : Nat} {lo hi : Option Int} : (sliceV (.cell n) lo hi h).wp Q = OnO h[n]? fun xs => Nw h (Dl.cutD xs lo hi) fun p h2 => Q (.cell p) h2 := by
  simp only [sliceV, seqOf]
  cases h[n]? <;> rfl
end
theorem still_0 {h : Mm} : Still [] h := fun _ hp => by cases hp
theorem still_1 {h : Mm} {p : Nat} {xs : List Vl} (e : h[p]? = some xs) : Still [(p, xs)] h := fun z hz => by
  rw [List.mem_singleton] at hz; subst hz; exact e
theorem still_2 {h : Mm} {p q : Nat} {xs ys : List Vl} (e : h[p]? = some xs) (f : h[q]? = some ys) : Still [(p, xs), (q, ys)] h := fun z hz => by
  simp only [List.mem_cons, List.not_mem_nil, or_false] at hz
  rcases hz with rfl | rfl
  · exact e
  · exact f
/-- what stood stands -/
structure Ext (h h' : Mm) : Prop where
  len : h.length ≤ h'.length
  old : ∀ m : Nat, m < h.length → h'[m]? = h[m]?
theorem Ext.refl {h : Mm} : Ext h h := ⟨Nat.le_refl _, fun _ _ => rfl⟩
theorem Ext.trans {a b c : Mm} (x : Ext a b) (y : Ext b c) : Ext a c := ⟨Nat.le_trans x.len y.len, fun m hm => by rw [y.old m (Nat.lt_of_lt_of_le hm x.len), x.old m hm]⟩
theorem Ext.get {h h' : Mm} (x : Ext h h') {n : Nat} {xs : List Vl} (e : h[n]? = some xs) : h'[n]? = some xs := by
  rw [x.old n (List.getElem?_eq_some_iff.mp e).1]; exact e
theorem Ext.new {h h2 : Mm} {p : Nat} (e1 : h.length = p) (e2 : h2.length = p + 1) (e4 : ∀ m : Nat, m < p → h2[m]? = h[m]?) : Ext h h2 := ⟨by omega, fun m hm => e4 m (by omega)⟩
theorem Ext.up {h0 h h2 : Mm} (x : Ext h0 h) {n : Nat} (hn : h0.length ≤ n) (e1 : h2.length = h.length) (e3 : ∀ m : Nat, m ≠ n → h2[m]? = h[m]?) : Ext h0 h2 := ⟨by have := x.len; omega, fun m hm => by rw [e3 m (by omega), x.old m hm]⟩
theorem lt_of_get {h : Mm} {n : Nat} {xs : List Vl} (e : h[n]? = some xs) : n < h.length := (List.getElem?_eq_some_iff.mp e).1
section
variable {C : Str → List Vl → Mm → R Vl} {ρ : Ev} {h : Mm} {Q : Vl → Mm → Prop} {i : Int}
/-! frozen lists -/
theorem l_lenL {xs : List Vl} : biV .len [.lst xs] h = .ok (.int xs.length) h := id rfl
theorem l_listL {xs : List Vl} : (biV .list [.lst xs] h).wp Q = Nw h xs fun p h2 => Q (.cell p) h2 := id rfl
theorem l_listT {xs : List Vl} : (biV .list [.tup xs] h).wp Q = Nw h xs fun p h2 => Q (.cell p) h2 := id rfl
theorem l_listF {xs : List Int} : (biV .list [.frz xs] h).wp Q = Nw h (xs.map .int) fun p h2 => Q (.cell p) h2 := id rfl
theorem l_tupL {xs : List Vl} : biV .tuple [.lst xs] h = .ok (.tup xs) h := id rfl
theorem l_sumL {xs : List Vl} : (biV .sum [.lst xs] h).wp Q = OnO (asInts xs) fun is => Q (.int is.sum) h := by
  show (match asInts xs with | some is => R.ok (Vl.int is.sum) h | none => R.bad).wp Q = _
  cases asInts xs <;> rfl
theorem l_allL {xs : List Vl} : (biV .all [.lst xs] h).wp Q = OnO (asBools xs) fun is => Q (.bl (is.all id)) h := by
  show (match asBools xs with | some is => R.ok (Vl.bl (is.all id)) h | none => R.bad).wp Q = _
  cases asBools xs <;> rfl
theorem l_reprL {xs : List Vl} : (biV .repr [.lst xs] h).wp Q = OnO (snap 8 h (.lst xs)) fun d => If (reprOk d) (Q (.str d.shown) h) := by
  show (match snap 8 h (.lst xs) with | some d => (if reprOk d then R.ok (Vl.str d.shown) h else R.bad) | none => R.bad).wp Q = _
  cases snap 8 h (.lst xs) with
  | none => rfl
  | some d => cases hc : reprOk d <;> simp [OnO, If, R.wp, hc]
theorem i_rng3' {a b c : E} {QI : List Vl × Watch → Mm → Prop} : (evIt C (.rng3 a b c) ρ h).wp QI = (ev C a ρ h).wp fun x h1 => (ev C b ρ h1).wp fun y h2 => (ev C c ρ h2).wp fun z h3 => OnI x fun i => OnI y fun j => OnI z fun l => If (small i && small j && decide (l = -1)) (QI (rngC i (-1) (i - j).toNat, []) h3) := by
  rw [evIt, wp_bind]
  refine wp_ext fun x h1 => ?_
  rw [wp_bind]
  refine wp_ext fun y h2 => ?_
  rw [wp_bind]
  refine wp_ext fun z h3 => ?_
  cases x with
  | int i => cases y with
    | int j => cases z with
      | int l =>
        simp only [OnI]
        by_cases hc : (small i && small j && decide (l = -1)) = true
        · rw [if_pos hc]; simp only [R.wp, If, hc, true_and]
        · rw [if_neg hc]; simp only [R.wp, If]; exact propext ⟨False.elim, fun z => hc z.1⟩
      | _ => rfl
    | _ => rfl
  | _ => rfl
theorem i_rng2' {a b : E} {QI : List Vl × Watch → Mm → Prop} : (evIt C (.rng2 a b) ρ h).wp QI = (ev C a ρ h).wp fun x h1 => (ev C b ρ h1).wp fun y h2 => OnI x fun i => OnI y fun j => If (small i && small j) (QI (rngV i (j - i).toNat, []) h2) := by
  rw [evIt, wp_bind]
  refine wp_ext fun x h1 => ?_
  rw [wp_bind]
  refine wp_ext fun y h2 => ?_
  cases x with
  | int i => cases y with
    | int j =>
      simp only [OnI]
      by_cases hc : (small i && small j) = true
      · rw [if_pos hc]; simp only [R.wp, If, hc, true_and]
      · rw [if_neg hc]; simp only [R.wp, If]; exact propext ⟨False.elim, fun z => hc z.1⟩
    | _ => rfl
  | _ => rfl
theorem l_maxL {xs : List Vl} : (biV .max [.lst xs] h).wp Q = OnO (asInts xs) fun is => If (!is.isEmpty) (Q (.int (maxOf is)) h) := by
  show (match asInts xs with | some is => (if is.isEmpty then R.bad else R.ok (Vl.int (maxOf is)) h) | none => R.bad).wp Q = _
  cases asInts xs with
  | none => rfl
  | some is => cases hc : is.isEmpty <;> simp [OnO, If, R.wp, hc]
theorem l_minL {xs : List Vl} : (biV .min [.lst xs] h).wp Q = OnO (asInts xs) fun is => If (!is.isEmpty) (Q (.int (minOf is)) h) := by
  show (match asInts xs with | some is => (if is.isEmpty then R.bad else R.ok (Vl.int (minOf is)) h) | none => R.bad).wp Q = _
  cases asInts xs with
  | none => rfl
  | some is => cases hc : is.isEmpty <;> simp [OnO, If, R.wp, hc]
theorem l_reprI : (biV .repr [.int i] h).wp Q = If (big i) (Q (.str (toString i)) h) := by
  show (if big i = true then R.ok (Vl.str (toString i)) h else R.bad).wp Q = _
  cases hc : big i <;> simp [If, R.wp]
theorem cutD_map {α β : Type} (f : α → β) (xs : List α) (lo hi : Option Int) : Dl.cutD (xs.map f) lo hi = (Dl.cutD xs lo hi).map f := by
  unfold Dl.cutD; rw [List.length_map, ← List.map_drop, ← List.map_take]
theorem l_ixl {xs : List Vl} : (ixV (.lst xs) (.int i) h).wp Q = OnO (atI xs i) fun v => Q v h := by
  simp only [ixV]; cases atI xs i <;> rfl
theorem l_catL {xs ys : List Vl} : (binV .add (.lst xs) (.lst ys) h).wp Q = If (decide (xs.length + ys.length ≤ sizeLine)) (Q (.lst (xs ++ ys)) h) := by
  simp only [binV]
  by_cases hc : xs.length + ys.length ≤ sizeLine
  · simp [If, R.wp, hc]
  · simp [If, R.wp, hc]
theorem l_catC {a : Nat} {ys : List Vl} : (binV .add (.cell a) (.lst ys) h).wp Q = OnO h[a]? fun xs => If (decide (xs.length + ys.length ≤ sizeLine)) (Nw h (xs ++ ys) fun p h2 => Q (.cell p) h2) := by
  simp only [binV]
  cases h[a]? with
  | none => rfl
  | some xs =>
    by_cases hc : xs.length + ys.length ≤ sizeLine
    · simp [OnO, If, R.wp, hc, Nw]
    · simp [OnO, If, R.wp, hc]
theorem l_sliceL {xs : List Vl} {lo hi : Option Int} : sliceV (.lst xs) lo hi h = .ok (.lst (Dl.cutD xs lo hi)) h := id rfl
theorem l_sliceF {xs : List Int} {lo hi : Option Int} : (sliceV (.frz xs) lo hi h).wp Q = Nw h (Dl.cutD (xs.map .int) lo hi) fun p h2 => Q (.cell p) h2 := id rfl
theorem itO_lst {xs : List Vl} {K : List Vl × Watch → Prop} : itO h (.lst xs) K = K (xs, []) := by simp [itO, itV, seqOf, watch]
theorem seq_lst {xs : List Vl} : seqOf h (.lst xs) = some xs := id rfl
theorem watch_lst {xs : List Vl} : watch h (.lst xs) = [] := id rfl
theorem isi_lst_int {xs : List Vl} : isiV (.lst xs) .int = false := rfl
theorem isi_lst_bool {xs : List Vl} : isiV (.lst xs) .bool = false := rfl
theorem isi_lst_str {xs : List Vl} : isiV (.lst xs) .str = false := rfl
theorem isi_lst_list {xs : List Vl} : isiV (.lst xs) .list = true := rfl
theorem isi_lst_tuple {xs : List Vl} : isiV (.lst xs) .tuple = false := rfl
/-! freezing -/
def Fz (h h' : Mm) (x : Vl) (Q : Vl → Mm → Prop) (_ : Hid Q := ()) : Prop := (frzV h h' x).wp Q
def FzN (h : Mm) (xs : List Vl) (Q : Vl → Mm → Prop) (_ : Hid Q := ()) : Prop := Nw h xs fun p h2 => Fz h h2 (.cell p) Q
def FzS (h : Mm) (x : Vl) (Q : Vl → Mm → Prop) (_ : Hid Q := ()) : Prop := Fz h h x Q
theorem w_frz {a : E} : (ev C (.frz a) ρ h).wp Q = (ev C a ρ h).wp fun x h' => Fz h h' x Q := by rw [ev, wp_bind]; rfl
theorem w_fcall {f : Str} {es : List E} : (ev C (.fcall f es) ρ h).wp Q = (evs C es ρ h).wp fun xs h1 => (C f xs h1).wp fun x h2 => Fz h1 h2 x Q := by
  rw [ev, wp_bind]; exact wp_ext fun xs h1 => by rw [wp_bind]; rfl
theorem w_fcallk {f : Str} {es : List E} {pm : List Nat} : (ev C (.fcallk f es pm) ρ h).wp Q = (evs C es ρ h).wp fun xs h1 => (C f (pm.map fun i => xs.getD i .non) h1).wp fun x h2 => Fz h1 h2 x Q := by
  rw [ev, wp_bind]; exact wp_ext fun xs h1 => by rw [wp_bind]; rfl
theorem w_fls {es : List E} : (ev C (.fls es) ρ h).wp Q = (evs C es ρ h).wp fun xs h1 => Br (isPL xs) (Q (.lst xs) h1) (Nw h1 xs fun p h2 => Q (.cell p) h2) := by
  rw [ev, wp_bind]
  refine wp_ext fun xs h1 => ?_
  cases hc : isPL xs <;> simp [R.wp, Br, Nw]
theorem fz_p {n : Nat} {h : Mm} {x : Vl} (hp : isP x = true) : ∀ k, fz n h k x = some x
  | 0 => by rw [fz, if_pos hp]
  | k + 1 => by rw [fz_s, if_pos hp]
theorem fzL_p {f : Vl → Option Vl} (hf : ∀ x, isP x = true → f x = some x) : ∀ {xs : List Vl}, isPL xs = true → fzL f xs = some xs
  | [], _ => rfl
  | x :: xs, h => by
    simp only [isPL, Bool.and_eq_true] at h
    simp only [fzL, hf x h.1, fzL_p hf h.2]
theorem fz_c {n c k : Nat} {h : Mm} {xs : List Vl} (hn : n ≤ c) (e : h[c]? = some xs) (hp : isPL xs = true) : fz n h (k + 1) (.cell c) = some (.lst xs) := by
  rw [fz_s, if_neg (by simp [isP])]
  dsimp only
  rw [if_pos hn, e]
  simp only [fzL_p (fun x hx => fz_p hx k) hp, Option.map_some]
theorem fz_cc {n c k : Nat} {h : Mm} {xs ys : List Vl} (hn : n ≤ c) (e : h[c]? = some xs) (hp : fzL (fz n h k) xs = some ys) : fz n h (k + 1) (.cell c) = some (.lst ys) := by
  rw [fz_s, if_neg (by simp [isP])]
  dsimp only
  rw [if_pos hn, e]
  simp only [hp, Option.map_some]
theorem fz_t {n k : Nat} {h : Mm} {xs ys : List Vl} (e : fzL (fz n h k) xs = some ys) : fz n h (k + 1) (.tup xs) = some (.tup ys) := by
  rw [fz_s]
  split
  · rename_i hp
    have := fzL_p (fun x hx => fz_p (n := n) (h := h) hx k) (xs := xs) (by simpa [isP] using hp)
    rw [this] at e; cases e; rfl
  · dsimp only; rw [e]; rfl
theorem fzL_cons {f : Vl → Option Vl} {x y : Vl} {xs ys : List Vl} (h1 : f x = some y) (h2 : fzL f xs = some ys) : fzL f (x :: xs) = some (y :: ys) := by simp only [fzL, h1, h2]
theorem fzL_nil {f : Vl → Option Vl} : fzL f [] = some [] := id rfl
theorem keep_ext {h h' : Mm} (x : Ext h h') : Keep h h' := ⟨x.len, fun i hi => .inl (x.old i hi)⟩
theorem Ext.take {h h' : Mm} (x : Ext h h') : h'.take h.length = h := by
  refine List.ext_getElem? fun j => ?_
  rw [List.getElem?_take]
  split
  · rename_i hj; exact x.old j hj
  · rw [List.getElem?_eq_none (by omega)]
theorem fz_mk {h h' : Mm} {x y : Vl} (e : fz h.length h' 16 x = some y) (k : Keep h h') (q : Q y (h'.take h.length)) : Fz h h' x Q := by
  unfold Fz frzV
  rw [e]
  dsimp only
  rw [if_pos k]; exact q
theorem fz_ext {h h' : Mm} {x y : Vl} (e : fz h.length h' 16 x = some y) (k : Ext h h') (q : Q y h) : Fz h h' x Q := fz_mk e (keep_ext k) (by rw [k.take]; exact q)
theorem fz_same {x : Vl} : Fz h h x Q = Br (isP x) (Q x h) (FzS h x Q) := by
  cases hp : isP x with
  | false => rfl
  | true =>
    unfold Fz frzV
    rw [fz_p hp]
    dsimp only
    rw [if_pos (keep_ext .refl), List.take_length]; rfl
theorem ext_snoc {xs : List Vl} : Ext h (h ++ [xs]) := ⟨by simp, fun m hm => List.getElem?_append_left hm⟩
theorem fz_nw {xs : List Vl} : (Nw h xs fun p h2 => Fz h h2 (.cell p) Q) = Br (isPL xs) (Q (.lst xs) h) (FzN h xs Q) := by
  cases hp : isPL xs with
  | false => rfl
  | true =>
    show (frzV h (h ++ [xs]) (.cell h.length)).wp Q = _
    unfold frzV
    rw [fz_c (Nat.le_refl _) (List.getElem?_concat_length ..) hp]
    dsimp only
    rw [if_pos (keep_ext ext_snoc), ext_snoc.take]; rfl
theorem isP_int {i : Int} : isP (.int i) = true := by simp [isP]
theorem isP_bl {i : Bool} : isP (.bl i) = true := by simp [isP]
theorem isP_str {i : Str} : isP (.str i) = true := by simp [isP]
theorem isP_non : isP .non = true := by simp [isP]
theorem isP_cell {n : Nat} : isP (.cell n) = false := by simp [isP]
theorem isP_frz {i : List Int} : isP (.frz i) = true := by simp [isP]
theorem isP_lst {i : List Vl} : isP (.lst i) = true := by simp [isP]
theorem isP_tup {i : List Vl} : isP (.tup i) = isPL i := by simp [isP]
theorem isPL_nil : isPL [] = true := by simp [isPL]
theorem isPL_cons {x : Vl} {xs : List Vl} : isPL (x :: xs) = (isP x && isPL xs) := by simp [isPL]
theorem isPL_map {α : Type} {f : α → Vl} (hf : ∀ a, isP (f a) = true) : ∀ (xs : List α), isPL (xs.map f) = true
  | [] => isPL_nil
  | x :: xs => by rw [List.map_cons, isPL_cons, hf x, isPL_map hf xs]; rfl
theorem isPL_ints {xs : List Int} : isPL (xs.map .int) = true := isPL_map (fun _ => isP_int) xs
theorem isPL_bls {xs : List Bool} : isPL (xs.map .bl) = true := isPL_map (fun _ => isP_bl) xs
theorem isPL_all {xs : List Vl} (h : ∀ x ∈ xs, isP x = true) : isPL xs = true := by
  induction xs with
  | nil => exact isPL_nil
  | cons x xs ih => rw [isPL_cons, h x (by simp), ih fun y hy => h y (List.mem_cons_of_mem _ hy)]; rfl
theorem isPL_app {xs ys : List Vl} : isPL (xs ++ ys) = (isPL xs && isPL ys) := by
  induction xs with
  | nil => rw [List.nil_append, isPL_nil, Bool.true_and]
  | cons x xs ih => rw [List.cons_append, isPL_cons, isPL_cons, ih, Bool.and_assoc]
theorem isPL_cut {xs : List Vl} (h : isPL xs = true) (lo hi : Option Int) : isPL (Dl.cutD xs lo hi) = true := by
  have mem : ∀ {xs : List Vl}, isPL xs = true → ∀ x ∈ xs, isP x = true := by
    intro xs
    induction xs with
    | nil => intro _ x hx; cases hx
    | cons y ys ih =>
      intro h x hx
      rw [isPL_cons, Bool.and_eq_true] at h
      rcases List.mem_cons.mp hx with rfl | hx
      · exact h.1
      · exact ih h.2 x hx
  refine isPL_all fun x hx => mem h x ?_
  unfold Dl.cutD at hx
  exact List.mem_of_mem_drop (List.mem_of_mem_take hx)
/-! defs without a trace -/
def Pu (T : Str → Option Fn) (k : Nat) (f : Str) (xs : List Vl) (y : Vl) : Prop := ∀ h : Mm, (call T k f xs h).wp fun x h' => Ext h h' ∧ fz h.length h' 16 x = some y
theorem pu_use {T : Str → Option Fn} {k : Nat} {f : Str} {xs : List Vl} {y : Vl} (p : Pu T k f xs y) (q : Q y h) : (call T k f xs h).wp fun x h' => Fz h h' x Q :=
  wp_mono (p h) fun x h' z => fz_ext z.2 z.1 q
theorem pu_eq {T : Str → Option Fn} {k : Nat} {f : Str} {xs : List Vl} {y : Vl} {h : Mm} {Q : Vl → Mm → Prop} (p : Pu T k f xs y) : ((call T k f xs h).wp fun x h' => Fz h h' x Q) = Q y h := by
  have z := p h
  cases e : call T k f xs h with
  | ok x h' =>
    rw [e] at z
    have z : Ext h h' ∧ fz h.length h' 16 x = some y := z
    show Fz h h' x Q = Q y h
    unfold Fz frzV
    rw [z.2]
    dsimp only
    rw [if_pos (keep_ext z.1), z.1.take]; rfl
  | err _ _ => rw [e] at z; exact z.elim
  | bad => rw [e] at z; exact z.elim
theorem pu_eqs {T : Str → Option Fn} {k : Nat} {f : Str} {xs : List Vl} {y : Vl} (p : Pu T k f xs y) : ∀ (h : Mm) (Q : Vl → Mm → Prop), ((call T k f xs h).wp fun x h' => Fz h h' x Q) = Q y h := fun h Q => pu_eq p
def PuE (h h1 : Mm) (x y : Vl) : Prop := Ext h h1 ∧ fz h.length h1 16 x = some y
theorem pu_end {h : Mm} {x : Vl} (hp : isP x = true) : PuE h h x x := ⟨.refl, fz_p hp 16⟩
theorem pu_mk {T : Str → Option Fn} {k : Nat} {f : Str} {fn : Fn} {xs : List Vl} {y : Vl} (hT : T f = some fn) (hl : xs.length = fn.ps) (hn : fn.ps ≤ fn.n)
    (hb : ∀ h : Mm, (exs (call T k) fn.body (xs.map some ++ List.replicate (fn.n - fn.ps) none) h).wp ⟨fun _ h1 => PuE h h1 .non y, fun x h1 => PuE h h1 x y, fun _ _ => False, fun _ _ => False⟩) : Pu T (k + 1) f xs y :=
  fun h => call_wp hT hl hn (hb h)
/-! comprehensions over values -/
theorem lc_pure {cond : Ev → Mm → R Bool} {elt : Ev → Mm → R Vl} {tg : Tg} {xs : List Vl} {K : Vl → Mm → Prop} (p : Vl → Bool) (f : Vl → Vl) (hl : xs.length ≤ 100000)
    (hs : ∀ x ∈ xs, ∃ ρ1, asgT tg x ρ = some ρ1 ∧ (cond ρ1 h).wp fun b h1 => b = p x ∧ h1 = h ∧ (b = true → (elt ρ1 h).wp fun v h2 => v = f x ∧ h2 = h)) (hd : Nw h ((xs.filter p).map f) fun q h2 => K (.cell q) h2) : (lcV cond elt tg [] ρ xs [] h).wp K := by
  refine lc_inv (fun pre acc h' => h' = h ∧ acc = (pre.filter p).map f ∧ pre.length ≤ xs.length) ⟨rfl, rfl, Nat.zero_le _⟩ ?_ ?_ ?_
  · rintro pre acc h' ⟨rfl, rfl, hl2⟩
    refine ⟨still_0, ?_⟩
    rw [List.length_map]
    have := List.length_filter_le p pre
    exact Nat.lt_of_le_of_lt (Nat.le_trans this (Nat.le_trans hl2 hl)) (by decide)
  · rintro pre x post acc h' e ⟨rfl, rfl, hl2⟩
    obtain ⟨ρ1, e1, z⟩ := hs x (by rw [e]; simp)
    have hl3 : (pre ++ [x]).length ≤ xs.length := by rw [e]; simp
    refine ⟨ρ1, e1, wp_mono z fun b h1 ⟨eb, eh, k⟩ => ?_⟩
    subst eh
    cases b with
    | true =>
      refine br_yes rfl (wp_mono (k rfl) fun v h2 ⟨ev, eh⟩ => ⟨eh, ?_, hl3⟩)
      rw [ev, List.filter_append, List.map_append]
      simp [← eb]
    | false =>
      refine br_no rfl ⟨rfl, ?_, hl3⟩
      rw [List.filter_append, List.map_append]
      simp [← eb]
  · rintro acc h' ⟨rfl, rfl, _⟩
    exact hd
end
theorem line_le {n : Nat} (h : n ≤ 100000) : decide (n ≤ sizeLine) = true := decide_eq_true (Nat.le_trans h (by decide))
theorem line_lt {n : Nat} (h : n ≤ 100000) : decide (n < sizeLine) = true := decide_eq_true (Nat.lt_of_le_of_lt h (by decide))
theorem ixN_k {n : Nat} {k : Nat} (h : k < n) : ixN n (k : Int) = some k := by
  unfold ixN; rw [if_pos (by omega), if_pos (by omega)]; simp
theorem ixN_0 {n : Nat} : ixN (n + 1) 0 = some 0 := by
  unfold ixN; rw [if_pos (by omega), if_pos (by omega)]; rfl
theorem ixN_1 {n : Nat} : ixN (n + 2) 1 = some 1 := by
  unfold ixN; rw [if_pos (by omega), if_pos (by omega)]; rfl
theorem ixN_2 {n : Nat} : ixN (n + 3) 2 = some 2 := by
  unfold ixN; rw [if_pos (by omega), if_pos (by omega)]; rfl
theorem bigOf {i : Int} (h : i.natAbs < 2 ^ 1000) : big i = true := by unfold big; exact decide_eq_true h
theorem smallOf {i : Int} (h1 : -(2 ^ 62) ≤ i) (h2 : i < 2 ^ 62) : small i = true := by unfold small; rw [decide_eq_true h1, decide_eq_true h2]; rfl
end IR
namespace IR
open PySem PySem.Spec PyProof.Rows L2 Dl
theorem isi_non_int {b : Bool} {i : Int} {s : Str} {xs : List Vl} {n : Nat} {ns : List Int} : isiV .non .int = false := rfl
theorem isi_non_bool {b : Bool} {i : Int} {s : Str} {xs : List Vl} {n : Nat} {ns : List Int} : isiV .non .bool = false := rfl
theorem isi_non_str {b : Bool} {i : Int} {s : Str} {xs : List Vl} {n : Nat} {ns : List Int} : isiV .non .str = false := rfl
theorem isi_non_list {b : Bool} {i : Int} {s : Str} {xs : List Vl} {n : Nat} {ns : List Int} : isiV .non .list = false := rfl
theorem isi_non_tuple {b : Bool} {i : Int} {s : Str} {xs : List Vl} {n : Nat} {ns : List Int} : isiV .non .tuple = false := rfl
theorem isi_bl_int {b : Bool} {i : Int} {s : Str} {xs : List Vl} {n : Nat} {ns : List Int} : isiV (.bl b) .int = true := rfl
theorem isi_bl_bool {b : Bool} {i : Int} {s : Str} {xs : List Vl} {n : Nat} {ns : List Int} : isiV (.bl b) .bool = true := rfl
theorem isi_bl_str {b : Bool} {i : Int} {s : Str} {xs : List Vl} {n : Nat} {ns : List Int} : isiV (.bl b) .str = false := rfl
theorem isi_bl_list {b : Bool} {i : Int} {s : Str} {xs : List Vl} {n : Nat} {ns : List Int} : isiV (.bl b) .list = false := rfl
theorem isi_bl_tuple {b : Bool} {i : Int} {s : Str} {xs : List Vl} {n : Nat} {ns : List Int} : isiV (.bl b) .tuple = false := rfl
theorem isi_int_int {b : Bool} {i : Int} {s : Str} {xs : List Vl} {n : Nat} {ns : List Int} : isiV (.int i) .int = true := rfl
theorem isi_int_bool {b : Bool} {i : Int} {s : Str} {xs : List Vl} {n : Nat} {ns : List Int} : isiV (.int i) .bool = false := rfl
theorem isi_int_str {b : Bool} {i : Int} {s : Str} {xs : List Vl} {n : Nat} {ns : List Int} : isiV (.int i) .str = false := rfl
theorem isi_int_list {b : Bool} {i : Int} {s : Str} {xs : List Vl} {n : Nat} {ns : List Int} : isiV (.int i) .list = false := rfl
theorem isi_int_tuple {b : Bool} {i : Int} {s : Str} {xs : List Vl} {n : Nat} {ns : List Int} : isiV (.int i) .tuple = false := rfl
theorem isi_str_int {b : Bool} {i : Int} {s : Str} {xs : List Vl} {n : Nat} {ns : List Int} : isiV (.str s) .int = false := rfl
theorem isi_str_bool {b : Bool} {i : Int} {s : Str} {xs : List Vl} {n : Nat} {ns : List Int} : isiV (.str s) .bool = false := rfl
theorem isi_str_str {b : Bool} {i : Int} {s : Str} {xs : List Vl} {n : Nat} {ns : List Int} : isiV (.str s) .str = true := rfl
theorem isi_str_list {b : Bool} {i : Int} {s : Str} {xs : List Vl} {n : Nat} {ns : List Int} : isiV (.str s) .list = false := rfl
theorem isi_str_tuple {b : Bool} {i : Int} {s : Str} {xs : List Vl} {n : Nat} {ns : List Int} : isiV (.str s) .tuple = false := rfl
theorem isi_tup_int {b : Bool} {i : Int} {s : Str} {xs : List Vl} {n : Nat} {ns : List Int} : isiV (.tup xs) .int = false := rfl
theorem isi_tup_bool {b : Bool} {i : Int} {s : Str} {xs : List Vl} {n : Nat} {ns : List Int} : isiV (.tup xs) .bool = false := rfl
theorem isi_tup_str {b : Bool} {i : Int} {s : Str} {xs : List Vl} {n : Nat} {ns : List Int} : isiV (.tup xs) .str = false := rfl
theorem isi_tup_list {b : Bool} {i : Int} {s : Str} {xs : List Vl} {n : Nat} {ns : List Int} : isiV (.tup xs) .list = false := rfl
theorem isi_tup_tuple {b : Bool} {i : Int} {s : Str} {xs : List Vl} {n : Nat} {ns : List Int} : isiV (.tup xs) .tuple = true := rfl
theorem isi_cell_int {b : Bool} {i : Int} {s : Str} {xs : List Vl} {n : Nat} {ns : List Int} : isiV (.cell n) .int = false := rfl
theorem isi_cell_bool {b : Bool} {i : Int} {s : Str} {xs : List Vl} {n : Nat} {ns : List Int} : isiV (.cell n) .bool = false := rfl
theorem isi_cell_str {b : Bool} {i : Int} {s : Str} {xs : List Vl} {n : Nat} {ns : List Int} : isiV (.cell n) .str = false := rfl
theorem isi_cell_list {b : Bool} {i : Int} {s : Str} {xs : List Vl} {n : Nat} {ns : List Int} : isiV (.cell n) .list = true := rfl
theorem isi_cell_tuple {b : Bool} {i : Int} {s : Str} {xs : List Vl} {n : Nat} {ns : List Int} : isiV (.cell n) .tuple = false := rfl
theorem isi_frz_int {b : Bool} {i : Int} {s : Str} {xs : List Vl} {n : Nat} {ns : List Int} : isiV (.frz ns) .int = false := rfl
theorem isi_frz_bool {b : Bool} {i : Int} {s : Str} {xs : List Vl} {n : Nat} {ns : List Int} : isiV (.frz ns) .bool = false := rfl
theorem isi_frz_str {b : Bool} {i : Int} {s : Str} {xs : List Vl} {n : Nat} {ns : List Int} : isiV (.frz ns) .str = false := rfl
theorem isi_frz_list {b : Bool} {i : Int} {s : Str} {xs : List Vl} {n : Nat} {ns : List Int} : isiV (.frz ns) .list = true := rfl
theorem isi_frz_tuple {b : Bool} {i : Int} {s : Str} {xs : List Vl} {n : Nat} {ns : List Int} : isiV (.frz ns) .tuple = false := rfl
end IR

set_option Elab.async false
set_option linter.all false
set_option maxRecDepth 100000
set_option maxHeartbeats 4000000
namespace IR
open PySem PySem.Spec PyProof.Rows L2 Dl
abbrev vI (xs : List Int) : List Vl := xs.map .int
abbrev vL (xs : List Int) : Vl := .lst (vI xs)
abbrev vP (d : Int) (xs : List Int) : Vl := .tup [.int d, .lst (vI xs)]
def vInt : Vl → Bool
  | .int _ => true
  | _ => false
def vLeast (v : Vl) (k : Int) : Bool := match v with
  | .int i => decide (k ≤ i)
  | _ => false
def vTurn : Vl → Bool
  | .int i => !(i == 0)
  | _ => false
def vPair : Vl → Bool
  | .tup [_, _] => true
  | _ => false
/-! loops -/
section
variable {α β : Type} {ρ : Ev} {h : Mm} {D : Sk} {Q : Vl → Mm → Prop}
theorem for_mapW (f : α → Vl) {xs : List α} {body : Ev → Mm → RS} {tg : Tg} {W : Watch} (Iv : List α → Ev → Mm → Prop) (h0 : Iv [] ρ h) (hst : ∀ us ρ h, Iv us ρ h → Still W h)
    (hs : ∀ us u ws ρ h, xs = us ++ u :: ws → Iv us ρ h → ∃ ρ1, asgT tg (f u) ρ = some ρ1 ∧ (body ρ1 h).wp ⟨Iv (us ++ [u]), D.rt, D.nx, Iv (us ++ [u])⟩) (hd : ∀ ρ h, Iv xs ρ h → D.nx ρ h) : (forV body tg W (xs.map f) ρ h).wp D := by
  refine for_inv (fun pre ρ h => ∃ us ws, xs = us ++ ws ∧ pre = us.map f ∧ Iv us ρ h) ⟨[], xs, rfl, rfl, h0⟩ ?_ ?_ ?_
  · rintro pre ρ h ⟨us, ws, _, _, i⟩; exact hst _ _ _ i
  · rintro pre x post ρ h e ⟨us, ws, e1, rfl, i⟩
    rw [e1, List.map_append] at e
    have e2 := List.append_cancel_left e
    cases ws with
    | nil => cases e2
    | cons u ws =>
      rw [List.map_cons] at e2
      obtain ⟨e3, e4⟩ := List.cons.inj e2
      subst e3
      obtain ⟨ρ1, g1, g2⟩ := hs us u ws ρ h e1 i
      refine ⟨ρ1, g1, ?_⟩
      have nx : ∀ ρ h, Iv (us ++ [u]) ρ h → ∃ us' ws', xs = us' ++ ws' ∧ us.map f ++ [f u] = us'.map f ∧ Iv us' ρ h := fun ρ h i => ⟨us ++ [u], ws, by rw [e1]; simp, by simp, i⟩
      cases eb : body ρ1 h with
      | next ρ2 h2 => rw [eb] at g2; exact nx _ _ g2
      | cont ρ2 h2 => rw [eb] at g2; exact nx _ _ g2
      | brk ρ2 h2 => rw [eb] at g2; exact g2
      | ret v h2 => rw [eb] at g2; exact g2
      | err _ _ _ => rw [eb] at g2; exact g2
      | bad => rw [eb] at g2; exact g2
  · rintro ρ h ⟨us, ws, e1, e2, i⟩
    have : ws = [] := by
      have := congrArg List.length e2
      rw [e1] at this; simpa using this
    subst this
    rw [List.append_nil] at e1; subst e1
    exact hd ρ h i
theorem for_map (f : α → Vl) {xs : List α} {body : Ev → Mm → RS} {tg : Tg} (Iv : List α → Ev → Mm → Prop) (h0 : Iv [] ρ h)
    (hs : ∀ us u ws ρ h, xs = us ++ u :: ws → Iv us ρ h → ∃ ρ1, asgT tg (f u) ρ = some ρ1 ∧ (body ρ1 h).wp ⟨Iv (us ++ [u]), D.rt, D.nx, Iv (us ++ [u])⟩) (hd : ∀ ρ h, Iv xs ρ h → D.nx ρ h) : (forV body tg [] (xs.map f) ρ h).wp D :=
  for_mapW f Iv h0 (fun _ _ _ _ => still_0) hs hd
theorem rngV_map {i : Int} {n : Nat} : rngV i n = (List.range n).map fun k => .int (i + (k : Nat)) := rfl
theorem zipV_map (f : α → Vl) (g : β → Vl) (xs : List α) (ys : List β) : zipV (xs.map f) (ys.map g) = (xs.zip ys).map fun p => .tup [f p.1, g p.2] := by
  unfold zipV; rw [List.zip_map, List.map_map]; rfl
theorem enumV_map (f : α → Vl) (xs : List α) : enumV (xs.map f) = xs.zipIdx.map fun p => .tup [.int (p.2 : Nat), f p.1] := by
  unfold enumV; rw [List.zipIdx_map, List.map_map]; rfl
/-- a loop over a range: the index is how many are passed -/
theorem for_rng {n : Nat} {body : Ev → Mm → RS} {tg : Tg} (Iv : Nat → Ev → Mm → Prop) (h0 : Iv 0 ρ h)
    (hs : ∀ k ρ h, k < n → Iv k ρ h → ∃ ρ1, asgT tg (.int k) ρ = some ρ1 ∧ (body ρ1 h).wp ⟨Iv (k + 1), D.rt, D.nx, Iv (k + 1)⟩) (hd : ∀ ρ h, Iv n ρ h → D.nx ρ h) : (forV body tg [] (rngV 0 n) ρ h).wp D := by
  rw [rngV_map]
  refine for_map _ (fun us ρ h => Iv us.length ρ h) h0 (fun us u ws ρ h e i => ?_) (fun ρ h i => hd ρ h (by rw [List.length_range] at i; exact i))
  have hl : us.length < n := by have := congrArg List.length e; simp at this; omega
  have eu : u = us.length := by
    have := congrArg (fun l => l[us.length]?) e
    simp [List.getElem?_range hl] at this; exact this.symm
  subst eu
  obtain ⟨ρ1, g1, g2⟩ := hs us.length ρ h hl i
  refine ⟨ρ1, by rw [Int.zero_add]; exact g1, ?_⟩
  rw [List.length_append, List.length_singleton]; exact g2
theorem lc_map {cond : Ev → Mm → R Bool} {elt : Ev → Mm → R Vl} {tg : Tg} {K : Vl → Mm → Prop} (g : α → Vl) (p : α → Bool) (f : α → Vl) {xs : List α} (hl : xs.length ≤ 100000)
    (hs : ∀ x ∈ xs, ∃ ρ1, asgT tg (g x) ρ = some ρ1 ∧ (cond ρ1 h).wp fun b h1 => b = p x ∧ h1 = h ∧ (b = true → (elt ρ1 h).wp fun v h2 => v = f x ∧ h2 = h)) (hd : Nw h ((xs.filter p).map f) fun q h2 => K (.cell q) h2) : (lcV cond elt tg [] ρ (xs.map g) [] h).wp K := by
  refine lc_inv (fun pre acc h' => h' = h ∧ ∃ us ws, xs = us ++ ws ∧ pre = us.map g ∧ acc = (us.filter p).map f) ⟨rfl, [], xs, rfl, rfl, rfl⟩ ?_ ?_ ?_
  · rintro pre acc h' ⟨rfl, us, ws, e, _, rfl⟩
    refine ⟨still_0, ?_⟩
    rw [List.length_map]
    have := List.length_filter_le p us
    have l2 := congrArg List.length e
    rw [List.length_append] at l2
    exact Nat.lt_of_le_of_lt (Nat.le_trans this (by omega)) (by decide : 100000 < sizeLine)
  · rintro pre x post acc h' e ⟨rfl, us, ws, e1, rfl, rfl⟩
    rw [e1, List.map_append] at e
    have e2 := List.append_cancel_left e
    cases ws with
    | nil => cases e2
    | cons u ws =>
      rw [List.map_cons] at e2
      obtain ⟨e3, e4⟩ := List.cons.inj e2
      subst e3
      obtain ⟨ρ1, g1, z⟩ := hs u (by rw [e1]; simp)
      refine ⟨ρ1, g1, wp_mono z fun b h1 ⟨eb, eh, k⟩ => ?_⟩
      subst eh
      cases b with
      | true =>
        refine br_yes rfl (wp_mono (k rfl) fun v h2 ⟨ev, eh⟩ => ⟨eh, us ++ [u], ws, by rw [e1]; simp, by simp, ?_⟩)
        rw [ev, List.filter_append, List.map_append]
        simp [← eb]
      | false =>
        refine br_no rfl ⟨rfl, us ++ [u], ws, by rw [e1]; simp, by simp, ?_⟩
        rw [List.filter_append, List.map_append]
        simp [← eb]
  · rintro acc h' ⟨rfl, us, ws, e1, e2, rfl⟩
    have : ws = [] := by
      have := congrArg List.length e2
      rw [e1] at this; simpa using this
    subst this
    rw [List.append_nil] at e1; subst e1
    exact hd
theorem lc_mapW {W : Watch} {cond : Ev → Mm → R Bool} {elt : Ev → Mm → R Vl} {tg : Tg} {K : Vl → Mm → Prop} (g : α → Vl) (p : α → Bool) (f : α → Vl) {xs : List α} (hl : xs.length ≤ 100000) (hW : Still W h)
    (hs : ∀ x ∈ xs, ∃ ρ1, asgT tg (g x) ρ = some ρ1 ∧ (cond ρ1 h).wp fun b h1 => b = p x ∧ h1 = h ∧ (b = true → (elt ρ1 h).wp fun v h2 => v = f x ∧ h2 = h)) (hd : Nw h ((xs.filter p).map f) fun q h2 => K (.cell q) h2) : (lcV cond elt tg W ρ (xs.map g) [] h).wp K := by
  refine lc_inv (fun pre acc h' => h' = h ∧ ∃ us ws, xs = us ++ ws ∧ pre = us.map g ∧ acc = (us.filter p).map f) ⟨rfl, [], xs, rfl, rfl, rfl⟩ ?_ ?_ ?_
  · rintro pre acc h' ⟨rfl, us, ws, e, _, rfl⟩
    refine ⟨hW, ?_⟩
    rw [List.length_map]
    have := List.length_filter_le p us
    have l2 := congrArg List.length e
    rw [List.length_append] at l2
    exact Nat.lt_of_le_of_lt (Nat.le_trans this (by omega)) (by decide : 100000 < sizeLine)
  · rintro pre x post acc h' e ⟨rfl, us, ws, e1, rfl, rfl⟩
    rw [e1, List.map_append] at e
    have e2 := List.append_cancel_left e
    cases ws with
    | nil => cases e2
    | cons u ws =>
      rw [List.map_cons] at e2
      obtain ⟨e3, e4⟩ := List.cons.inj e2
      subst e3
      obtain ⟨ρ1, g1, z⟩ := hs u (by rw [e1]; simp)
      refine ⟨ρ1, g1, wp_mono z fun b h1 ⟨eb, eh, k⟩ => ?_⟩
      subst eh
      cases b with
      | true =>
        refine br_yes rfl (wp_mono (k rfl) fun v h2 ⟨ev, eh⟩ => ⟨eh, us ++ [u], ws, by rw [e1]; simp, by simp, ?_⟩)
        rw [ev, List.filter_append, List.map_append]
        simp [← eb]
      | false =>
        refine br_no rfl ⟨rfl, us ++ [u], ws, by rw [e1]; simp, by simp, ?_⟩
        rw [List.filter_append, List.map_append]
        simp [← eb]
  · rintro acc h' ⟨rfl, us, ws, e1, e2, rfl⟩
    have : ws = [] := by
      have := congrArg List.length e2
      rw [e1] at this; simpa using this
    subst this
    rw [List.append_nil] at e1; subst e1
    exact hd
end
/-! the state of a law's draws -/
def CoilAt (h : Mm) (c k : Nat) : Prop := ∃ a b n : Int, h[c]? = some [.int a, .int b, .int n] ∧ 0 ≤ a ∧ 0 ≤ b ∧ b < 10 ^ 45 ∧ 0 ≤ n ∧ n ≤ k
theorem CoilAt.mono {h h' : Mm} {c k : Nat} (x : CoilAt h c k) (e : h'[c]? = h[c]?) : CoilAt h' c k := by
  unfold CoilAt at *; rw [e]; exact x
theorem CoilAt.lt {h : Mm} {c k : Nat} (x : CoilAt h c k) : c < h.length := by
  obtain ⟨_, _, _, e, _⟩ := x; exact lt_of_get e
theorem CoilAt.le {h : Mm} {c k j : Nat} (x : CoilAt h c k) (hk : k ≤ j) : CoilAt h c j := by
  obtain ⟨a, b, n, e, h1, h2, h3, h4, h5⟩ := x; exact ⟨a, b, n, e, h1, h2, h3, h4, by omega⟩
theorem CoilAt.ext {h h' : Mm} {c k : Nat} (x : CoilAt h c k) (y : Ext h h') : CoilAt h' c k := x.mono (y.old c x.lt)
theorem CoilAt.pure {h : Mm} {c k : Nat} (x : CoilAt h c k) : ∃ xs ds, h[c]? = some xs ∧ PurL xs ds := by
  obtain ⟨a, b, n, e, _⟩ := x; exact ⟨_, _, e, .cons (.int _) (.cons (.int _) (.cons (.int _) .nil))⟩
/-- a law's own steps: only the draws and new cells -/
structure Stp (c : Nat) (h h' : Mm) : Prop where
  len : h.length ≤ h'.length
  old : ∀ m : Nat, m < h.length → m ≠ c → h'[m]? = h[m]?
theorem Stp.refl {c : Nat} {h : Mm} : Stp c h h := ⟨Nat.le_refl _, fun _ _ _ => rfl⟩
theorem Stp.trans {c : Nat} {a b d : Mm} (x : Stp c a b) (y : Stp c b d) : Stp c a d := ⟨Nat.le_trans x.len y.len, fun m hm hn => by rw [y.old m (Nat.lt_of_lt_of_le hm x.len) hn, x.old m hm hn]⟩
theorem Stp.get {c : Nat} {h h' : Mm} (x : Stp c h h') {n : Nat} {xs : List Vl} (hn : n ≠ c) (e : h[n]? = some xs) : h'[n]? = some xs := by
  rw [x.old n (lt_of_get e) hn]; exact e
theorem Stp.ext {c : Nat} {h h' : Mm} (x : Ext h h') : Stp c h h' := ⟨x.len, fun m hm _ => x.old m hm⟩
theorem Stp.new {c : Nat} {h h2 : Mm} {p : Nat} (e1 : h.length = p) (e2 : h2.length = p + 1) (e4 : ∀ m : Nat, m < p → h2[m]? = h[m]?) : Stp c h h2 := ⟨by omega, fun m hm _ => e4 m (by omega)⟩
theorem Stp.drw {c : Nat} {h h2 : Mm} (e1 : h2.length = h.length) (e3 : ∀ m : Nat, m ≠ c → h2[m]? = h[m]?) : Stp c h h2 := ⟨by omega, fun m _ hn => e3 m hn⟩
theorem Stp.up {c : Nat} {h0 h h2 : Mm} (x : Stp c h0 h) {n : Nat} (hn : h0.length ≤ n) (e1 : h2.length = h.length) (e3 : ∀ m : Nat, m ≠ n → h2[m]? = h[m]?) : Stp c h0 h2 := ⟨by have := x.len; omega, fun m hm hc => by rw [e3 m (by omega), x.old m hm hc]⟩
/-- a law's run from h0 on: the coil after k draws -/
structure CS (h0 h : Mm) (c k : Nat) : Prop where
  coil : CoilAt h c k
  stp : Stp c h0 h
  lt : c < h0.length
theorem CS.start {h : Mm} {c k : Nat} (x : CoilAt h c k) : CS h h c k := ⟨x, .refl, x.lt⟩
theorem CS.le {h0 h : Mm} {c k j : Nat} (x : CS h0 h c k) (e : k ≤ j) : CS h0 h c j := ⟨x.coil.le e, x.stp, x.lt⟩
theorem CS.trans {h0 h1 h2 : Mm} {c k j : Nat} (x : CS h0 h1 c k) (y : CS h1 h2 c j) : CS h0 h2 c j := ⟨y.coil, x.stp.trans y.stp, x.lt⟩
theorem CS.of {h : Mm} {h0 h1 : Mm} {c k : Nat} (x : CS h0 h1 c k) : CS h1 h1 c k := .start x.coil
theorem CS.len {h0 h : Mm} {c k : Nat} (x : CS h0 h c k) : h0.length ≤ h.length := x.stp.len
theorem CS.get {h0 h : Mm} {c k : Nat} (x : CS h0 h c k) {n : Nat} {xs : List Vl} (hn : n ≠ c) (e : h0[n]? = some xs) : h[n]? = some xs := x.stp.get hn e
theorem CS.ext {h0 h h' : Mm} {c k : Nat} (x : CS h0 h c k) (e : Ext h h') : CS h0 h' c k := ⟨x.coil.ext e, x.stp.trans (.ext e), x.lt⟩
theorem CS.keep {h h' : Mm} {c k : Nat} (x : CS h h' c k) : Keep h h' := ⟨x.len, fun i hi => by
  by_cases e : i = c
  · subst e; exact .inr x.coil.pure
  · exact .inl (x.stp.old i hi e)⟩
theorem nw_cs {h0 h : Mm} {xs : List Vl} {P : Nat → Mm → Prop} {c k : Nat} (hc : CS h0 h c k) (kk : ∀ (p : Nat) (h2 : Mm), h.length = p → h2.length = p + 1 → h2[p]? = some xs → (∀ m : Nat, m < p → h2[m]? = h[m]?) → c < p → CS h0 h2 c k → h0.length ≤ p → P p h2) : Nw h xs P :=
  nw_mk fun p h2 e1 e2 e3 e4 => by
    have l1 := hc.coil.lt
    have l2 := hc.stp.len
    exact kk p h2 e1 e2 e3 e4 (by omega) ⟨hc.coil.mono (e4 c (by omega)), hc.stp.trans (.new e1 e2 e4), hc.lt⟩ (by omega)
theorem up_cs {h0 h : Mm} {n : Nat} {ys : List Vl} {P : Mm → Prop} {c k : Nat} (hc : CS h0 h c k) (up : n < h.length) (ge : h0.length ≤ n) (kk : ∀ h2 : Mm, h2.length = h.length → h2[n]? = some ys → (∀ m : Nat, m ≠ n → h2[m]? = h[m]?) → CS h0 h2 c k → P h2) : Up h n ys P :=
  up_mk up fun h2 e1 e2 e3 => kk h2 e1 e2 e3 ⟨hc.coil.mono (e3 c (by have := hc.lt; omega)), hc.stp.up ge e1 e3, hc.lt⟩
theorem ix_menu {K : Vl → Prop} (xs : List Int) (P : Int → Prop) {r : Int} (h0 : 0 ≤ r) (h1 : r < xs.length) (hx : ∀ i ∈ xs, P i) (k : ∀ i, P i → K (.int i)) : OnO (atI (vI xs) r) K :=
  at_any h0 (by rw [List.length_map]; exact h1) fun v hv => by
    obtain ⟨i, hi, rfl⟩ := List.mem_map.mp hv
    exact k i (hx i hi)
/-- a def that draws -/
structure DrawSp (T : Str → Option Fn) (f : Str) : Prop where
  sp : ∀ {k : Nat} {h : Mm} {Q : Vl → Mm → Prop} {c j : Nat} {m : Int}, CoilAt h c j → 0 < m → m < 10 ^ 60 → j ≤ 1000000 →
    (∀ (r : Int) (h' : Mm), 0 ≤ r → r < m → h'.length = h.length → CoilAt h' c (j + 1) → (∀ x : Nat, x ≠ c → h'[x]? = h[x]?) → Q (.int r) h') → (call T (k + 1) f [.cell c, .int m] h).wp Q
theorem CS.dr {h0 h h' : Mm} {c j k : Nat} (hc : CS h0 h c j) (e3 : h'.length = h.length) (e4 : CoilAt h' c k) (e5 : ∀ x : Nat, x ≠ c → h'[x]? = h[x]?) : CS h0 h' c k := ⟨e4, hc.stp.trans (.drw e3 e5), hc.lt⟩
theorem take_len {α : Type} {a b : List α} (h : a.length = b.length) : a.take b.length = a := by rw [← h, List.take_length]
theorem dr_cs {T : Str → Option Fn} {f : Str} {k : Nat} {h0 h : Mm} {c j : Nat} {m : Int} {Q : Vl → Mm → Prop} (hT : DrawSp T f) (hc : CS h0 h c j) (hm : 0 < m) (hm2 : m < 10 ^ 60) (hk : j ≤ 1000000)
    (q : ∀ (r : Int) (h' : Mm), 0 ≤ r → r < m → h'.length = h.length → CS h0 h' c (j + 1) → (∀ x : Nat, x ≠ c → h'[x]? = h[x]?) → Q (.int r) h') : (call T (k + 1) f [.cell c, .int m] h).wp fun x h2 => Fz h h2 x Q :=
  hT.sp hc.coil hm hm2 hk fun r h' e1 e2 e3 e4 e5 => by
    refine fz_mk (fz_p isP_int 16) (CS.dr (.start hc.coil) e3 e4 e5).keep ?_
    rw [take_len e3]
    exact q r h' e1 e2 e3 (hc.dr e3 e4 e5) e5
/-- a def that makes a value of draws -/
def Dr (T : Str → Option Fn) (kk : Nat) (f : Str) (xs : List Vl) (c n : Nat) (P : Vl → Prop) : Prop := ∀ h j, CoilAt h c j → j ≤ 900000 → (call T kk f xs h).wp fun x h2 => ∃ y, fz h.length h2 16 x = some y ∧ P y ∧ CS h h2 c (j + n)
theorem dr_use {T : Str → Option Fn} {kk : Nat} {f : Str} {xs : List Vl} {h0 h : Mm} {c j n : Nat} {P : Vl → Prop} {Q : Vl → Mm → Prop} (d : Dr T kk f xs c n P) (hc : CS h0 h c j) (hk : j ≤ 900000)
    (q : ∀ (y : Vl) (h' : Mm), P y → h'.length = h.length → CS h0 h' c (j + n) → (∀ x : Nat, x ≠ c → h'[x]? = h[x]?) → Q y h') : (call T kk f xs h).wp fun x h2 => Fz h h2 x Q :=
  wp_mono (d h j hc.coil hk) fun x h2 ⟨y, e1, p, cs⟩ => by
    have hl : (h2.take h.length).length = h.length := by rw [List.length_take]; have := cs.len; omega
    have cl := hc.coil.lt
    have e5 : ∀ x : Nat, x ≠ c → (h2.take h.length)[x]? = h[x]? := fun x hx => by
      rw [List.getElem?_take]
      split
      · rename_i hx2; exact cs.stp.old x hx2 hx
      · rw [List.getElem?_eq_none (by omega)]
    have e4 : CoilAt (h2.take h.length) c (j + n) := cs.coil.mono (by rw [List.getElem?_take, if_pos cl])
    exact fz_mk e1 cs.keep (q y _ p hl (hc.dr hl e4 e5) e5)
def DrE (h h2 : Mm) (x : Vl) (c n : Nat) (P : Vl → Prop) : Prop := ∃ y, fz h.length h2 16 x = some y ∧ P y ∧ CS h h2 c n
theorem dr_mk {T : Str → Option Fn} {k : Nat} {f : Str} {fn : Fn} {xs : List Vl} {c n : Nat} {P : Vl → Prop} (hT : T f = some fn) (hl : xs.length = fn.ps) (hn : fn.ps ≤ fn.n)
    (hb : ∀ (h : Mm) (j : Nat), CS h h c j → j ≤ 900000 → (exs (call T k) fn.body (xs.map some ++ List.replicate (fn.n - fn.ps) none) h).wp ⟨fun _ h2 => DrE h h2 .non c (j + n) P, fun x h2 => DrE h h2 x c (j + n) P, fun _ _ => False, fun _ _ => False⟩) : Dr T (k + 1) f xs c n P :=
  fun h j cl hj => call_wp hT hl hn (hb h j (.start cl) hj)
/-- the end of a def that makes a value -/
theorem dr_endP {h h2 : Mm} {x : Vl} {c k n : Nat} {P : Vl → Prop} (hp : isP x = true) (p : P x) (cs : CS h h2 c k) (hk : k ≤ n) : DrE h h2 x c n P := ⟨x, fz_p hp 16, p, cs.le hk⟩
theorem dr_endC {h h2 : Mm} {q c k n : Nat} {xs : List Vl} {P : Vl → Prop} (hq : h.length ≤ q) (e : h2[q]? = some xs) (hp : isPL xs = true) (p : P (.lst xs)) (cs : CS h h2 c k) (hk : k ≤ n) : DrE h h2 (.cell q) c n P := ⟨.lst xs, fz_c hq e hp, p, cs.le hk⟩
theorem dr_endT {h h2 : Mm} {q c k n : Nat} {r : Int} {xs : List Vl} {P : Vl → Prop} (hq : h.length ≤ q) (e : h2[q]? = some xs) (hp : isPL xs = true) (p : P (.tup [.int r, .lst xs])) (cs : CS h h2 c k) (hk : k ≤ n) : DrE h h2 (.tup [.int r, .cell q]) c n P :=
  ⟨_, fz_t (fzL_cons (fz_p isP_int 15) (fzL_cons (fz_c hq e hp) fzL_nil)), p, cs.le hk⟩
theorem pu_endC {h h2 : Mm} {q : Nat} {xs : List Vl} (x : Ext h h2) (hq : h.length ≤ q) (e : h2[q]? = some xs) (hp : isPL xs = true) : PuE h h2 (.cell q) (.lst xs) := ⟨x, fz_c hq e hp⟩
theorem pu_endT {h h2 : Mm} {q : Nat} {r : Int} {xs : List Vl} (x : Ext h h2) (hq : h.length ≤ q) (e : h2[q]? = some xs) (hp : isPL xs = true) : PuE h h2 (.tup [.int r, .cell q]) (.tup [.int r, .lst xs]) :=
  ⟨x, fz_t (fzL_cons (fz_p isP_int 15) (fzL_cons (fz_c hq e hp) fzL_nil))⟩
end IR

set_option maxRecDepth 100000
namespace IR
open PySem
def ir_is_integer : Fn := ⟨1, 1, [.ret (.and (.isi (.loc 0) (.int)) (.not (.isi (.loc 0) (.bool))))]⟩
def ir_is_at_least : Fn := ⟨2, 2, [.ret (.and (.fcall "is_integer" [.loc 0]) (.cmp (.ge) (.loc 0) (.loc 1)))]⟩
def ir_is_turn : Fn := ⟨1, 1, [.ret (.and (.fcall "is_integer" [.loc 0]) (.cmp (.ne) (.loc 0) (.int 0)))]⟩
def ir_check_turns : Fn := ⟨3, 1, [.ife (.or (.not (.tru (.isi (.loc 0) (.list)))) (.tru (.cmp (.gt) (.bi (.len) [.loc 0]) (.int 60)))) [.stop] [], .forS (.tup [.nm 1, .nm 2]) (.enum (.loc 0)) [.ife (.not (.tru (.fcall "is_turn" [.loc 2]))) [.stop] []]]⟩
def ir_check_at_least : Fn := ⟨2, 2, [.ife (.not (.tru (.fcall "is_at_least" [.loc 0, .loc 1]))) [.stop] []]⟩
def ir_stops_of : Fn := ⟨5, 2, [.set 2 (.lst []), .set 3 (.loc 0), .forS (.nm 4) (.over (.loc 1)) [.set 3 (.bin (.add) (.loc 3) (.loc 4)), .expr (.app (.loc 2) (.loc 3))], .ret (.loc 2)]⟩
def ir_place_at : Fn := ⟨4, 3, [.forS (.nm 3) (.over (.loc 2)) [.set 0 (.bi (.min) [.bi (.max) [.loc 0, .bin (.sub) (.loc 3) (.loc 1)], .loc 3])], .ret (.loc 0)]⟩
def ir_place_behind : Fn := ⟨2, 2, [.expr (.fcall "check_at_least" [.loc 0, .int 0]), .expr (.fcall "check_turns" [.loc 1]), .ret (.fcall "place_at" [.int 0, .loc 0, .fcall "stops_of" [.int 0, .loc 1]])]⟩
def ir_law_stock : Fn := ⟨5, 1, [.tset (.tup [.nm 1, .nm 2]) (.tup [.int 0, .int 27644437]), .forS (.nm 3) (.over (.frz (.slice (.loc 0) none (some (.int 63))))) [.ife (.tru (.cmp (.ge) (.bi (.abs) [.loc 3]) (.bin (.pow) (.int 10) (.int 18)))) [.set 1 (.bin (.add) (.bin (.mul) (.loc 1) (.bin (.pow) (.int 10) (.int 60))) (.bin (.mod) (.bi (.toInt) [.bi (.abs) [.loc 3]]) (.bin (.pow) (.int 10) (.int 60))))] [], .set 4 (.bin (.add) (.bin (.add) (.bin (.mul) (.loc 2) (.int 48271)) (.bin (.mod) (.bi (.toInt) [.loc 3]) (.int 2305843009213693951))) (.int 101)), .set 2 (.bin (.mod) (.bi (.toInt) [.loc 4]) (.int 170141183460469231731687303715884105727))], .ret (.lst [.loc 1, .loc 2, .int 0])]⟩
def ir_law_draw : Fn := ⟨4, 2, [.ife (.tru (.cmp (.gt) (.ix (.loc 0) (.int 0)) (.int 0))) [.set 2 (.bin (.mod) (.bi (.toInt) [.ix (.loc 0) (.int 0)]) (.loc 1)), .setix (.loc 0) (.int 0) (.bin (.fdiv) (.ix (.loc 0) (.int 0)) (.loc 1)), .ret (.loc 2)] [], .setix (.loc 0) (.int 2) (.bin (.add) (.ix (.loc 0) (.int 2)) (.int 1)), .set 3 (.bin (.add) (.ix (.loc 0) (.int 1)) (.bin (.mul) (.int 1000000000000000003) (.ix (.loc 0) (.int 2)))), .set 3 (.bin (.add) (.bin (.mod) (.bi (.toInt) [.bin (.pow) (.loc 3) (.int 2)]) (.int 170141183460469231731687303715884105727)) (.bin (.mul) (.int 999999000001) (.ix (.loc 0) (.int 2)))), .set 3 (.bin (.mod) (.bi (.toInt) [.bin (.pow) (.loc 3) (.int 3)]) (.int 170141183460469231731687303715884105727)), .ret (.bin (.mod) (.bi (.toInt) [.bin (.fdiv) (.loc 3) (.int 1048576)]) (.loc 1))]⟩
def ir_law_draw_1 : Fn := ⟨4, 2, [.ife (.tru (.cmp (.gt) (.ix (.loc 0) (.int 0)) (.int 0))) [.set 2 (.bin (.mod) (.bi (.toInt) [.ix (.loc 0) (.int 0)]) (.loc 1)), .setix (.loc 0) (.int 0) (.bin (.fdiv) (.ix (.loc 0) (.int 0)) (.loc 1)), .ret (.loc 2)] [], .setix (.loc 0) (.int 2) (.bin (.add) (.ix (.loc 0) (.int 2)) (.int 1)), .set 3 (.bin (.mod) (.bi (.toInt) [.bin (.pow) (.bin (.add) (.ix (.loc 0) (.int 1)) (.bin (.mul) (.int 524287) (.ix (.loc 0) (.int 2)))) (.int 3)]) (.bin (.add) (.bin (.pow) (.int 10) (.int 44)) (.int 31))), .set 3 (.bin (.mod) (.bi (.toInt) [.bin (.pow) (.bin (.add) (.loc 3) (.bin (.mul) (.int 6700417) (.ix (.loc 0) (.int 2)))) (.int 3)]) (.bin (.add) (.bin (.pow) (.int 10) (.int 50)) (.int 151))), .ret (.bin (.mod) (.bi (.toInt) [.bin (.fdiv) (.loc 3) (.int 131071)]) (.loc 1))]⟩
def ir_law_draw_2 : Fn := ⟨4, 2, [.ife (.tru (.cmp (.gt) (.ix (.loc 0) (.int 0)) (.int 0))) [.set 2 (.bin (.mod) (.bi (.toInt) [.ix (.loc 0) (.int 0)]) (.loc 1)), .setix (.loc 0) (.int 0) (.bin (.fdiv) (.ix (.loc 0) (.int 0)) (.loc 1)), .ret (.loc 2)] [], .setix (.loc 0) (.int 2) (.bin (.add) (.ix (.loc 0) (.int 2)) (.int 1)), .set 3 (.bin (.mod) (.bi (.toInt) [.bin (.pow) (.bin (.add) (.ix (.loc 0) (.int 1)) (.bin (.mul) (.int 982451653) (.ix (.loc 0) (.int 2)))) (.int 3)]) (.bin (.add) (.bin (.pow) (.int 10) (.int 37)) (.int 43))), .set 3 (.bin (.mod) (.bi (.toInt) [.bin (.pow) (.bin (.add) (.loc 3) (.bin (.mul) (.int 472882027) (.ix (.loc 0) (.int 2)))) (.int 3)]) (.bin (.add) (.bin (.pow) (.int 10) (.int 41)) (.int 37))), .ret (.bin (.mod) (.bi (.toInt) [.bin (.fdiv) (.loc 3) (.int 777787)]) (.loc 1))]⟩
def ir_law_turns : Fn := ⟨6, 3, [.set 3 (.lst []), .forS (.nm 4) (.rng1 (.loc 1)) [.set 5 (.ix (.fls [.int 1, .bin (.add) (.int 1) (.fcall "_law_draw" [.loc 0, .int 9]), .bin (.add) (.int 1) (.fcall "_law_draw" [.loc 0, .loc 2]), .bin (.add) (.int 1) (.fcall "_law_draw" [.loc 0, .loc 2])]) (.fcall "_law_draw" [.loc 0, .int 4])), .expr (.app (.loc 3) (.bin (.mul) (.loc 5) (.ix (.fls [.int 1, .neg (.int 1)]) (.fcall "_law_draw" [.loc 0, .int 2]))))], .ret (.loc 3)]⟩
def ir_law_held : Fn := ⟨3, 3, [.ret (.bi (.max) [.bi (.min) [.loc 0, .loc 1], .bin (.sub) (.loc 1) (.loc 2)])]⟩
def ir_law_place : Fn := ⟨5, 2, [.tset (.tup [.nm 2, .nm 3]) (.tup [.int 0, .int 0]), .forS (.nm 4) (.over (.loc 1)) [.set 3 (.bin (.add) (.loc 3) (.loc 4)), .set 2 (.fcall "_law_held" [.loc 2, .loc 3, .loc 0])], .ret (.loc 2)]⟩
def ir_law_by_units : Fn := ⟨6, 2, [.tset (.tup [.nm 2, .nm 3]) (.tup [.int 0, .int 0]), .forS (.nm 4) (.over (.loc 1)) [.forS (.nm 5) (.rng1 (.bi (.abs) [.loc 4])) [.set 3 (.bin (.add) (.loc 3) (.ite (.tru (.cmp (.gt) (.loc 4) (.int 0))) (.int 1) (.neg (.int 1)))), .ife (.tru (.cmp (.gt) (.loc 2) (.loc 3))) [.set 2 (.loc 3)] [], .ife (.tru (.cmp (.lt) (.loc 2) (.bin (.sub) (.loc 3) (.loc 0)))) [.set 2 (.bin (.sub) (.loc 3) (.loc 0))] []]], .ret (.loc 2)]⟩
def ir_law_reaches : Fn := ⟨6, 2, [.par [2, 3] [.lst [.int 0], .int 0], .forS (.nm 4) (.over (.loc 1)) [.set 3 (.bin (.add) (.loc 3) (.loc 4)), .expr (.app (.loc 2) (.loc 3))], .set 5 (.bi (.abs) [.bin (.sub) (.ix (.loc 2) (.fcall "_law_draw" [.loc 0, .bi (.len) [.loc 2]])) (.ix (.loc 2) (.fcall "_law_draw" [.loc 0, .bi (.len) [.loc 2]]))]), .ret (.fls [.int 0, .int 1, .loc 5, .bin (.add) (.loc 5) (.int 1), .bi (.max) [.int 0, .bin (.sub) (.loc 5) (.int 1)], .fcall "_law_draw" [.loc 0, .int 50], .fcall "_law_draw" [.loc 0, .bin (.pow) (.int 10) (.int 29)], .bin (.pow) (.int 10) (.int 29)])]⟩
def ir_law_reaches_1 : Fn := ⟨3, 1, [.set 1 (.lst [.int 0]), .forS (.nm 2) (.over (.ix (.loc 0) (.int 1))) [.expr (.app (.loc 1) (.bin (.add) (.ix (.loc 1) (.neg (.int 1))) (.loc 2)))], .ret (.frz (.slice (.loc 1) (some (.int 1)) none))]⟩
def ir_law_right : Fn := ⟨4, 3, [.set 3 (.frz (.bi (.list) [.loc 0])), .ret (.and (.cmp (.eq) (.bi (.repr) [.fcallk "place_behind" [.loc 3, .loc 1] [1, 0]]) (.bi (.repr) [.loc 2])) (.cmp (.eq) (.loc 3) (.loc 0)))]⟩
def ir_law_right_1 : Fn := ⟨15, 2, [.set 2 (.ix (.fls [.int 9, .int 1000, .bin (.pow) (.int 10) (.int 12), .bin (.pow) (.int 10) (.int 27)]) (.fcall "_law_draw" [.loc 0, .int 4])), .set 3 (.fcall "_law_box" [.loc 0, .int 8, .loc 2, .loc 2]), .set 4 (.fcall "_law_row" [.loc 0, .loc 1, .ix (.fls [.loc 2, .bin (.mul) (.int 2) (.loc 2), .bin (.mul) (.int 5) (.loc 2)]) (.fcall "_law_draw" [.loc 0, .int 3])]), .stop, .set 8 (.frz (.bi (.list) [.stop])), .ife (.tru (.cmp (.ne) (.bi (.repr) [.fcallk "effect_of" [.loc 4, .loc 3] [1, 0]]) (.bi (.repr) [.tup [.bi (.sum) [.loc 4], .loc 8]]))) [.ret (.bl false)] [], .forS (.nm 9) (.rng1 (.int 3)) [.set 10 (.bin (.sub) (.fcall "_law_draw" [.loc 0, .bin (.pow) (.int 10) (.int 28)]) (.fcall "_law_draw" [.loc 0, .bin (.pow) (.int 10) (.int 28)])), .set 5 (.fcall "_law_past" [.loc 0, .loc 3, .loc 10]), .set 11 (.frz (.lc (.tup [.nm 12, .tup [.nm 13, .nm 14]]) (.zip (.ix (.loc 5) (.int 1)) (.loc 8)) [] (.bin (.add) (.loc 10) (.bi (.min) [.bi (.max) [.bin (.sub) (.loc 12) (.loc 10), .loc 13], .loc 14])) [12, 13, 14])), .ife (.tru (.cmp (.ne) (.fcall "_law_behind" [.loc 3, .loc 5, .loc 4]) (.tup [.bin (.add) (.loc 10) (.bi (.sum) [.loc 4]), .loc 11]))) [.ret (.bl false)] []], .ret (.bl true)]⟩
def ir_law_right_2 : Fn := ⟨12, 4, [.par [4, 5, 6] [.bi (.repr) [.fls [.loc 1, .loc 2, .loc 3]], .lst [], .loc 2], .forS (.nm 7) (.over (.loc 3)) [.set 6 (.fcall "_law_turned" [.loc 1, .loc 6, .loc 7]), .expr (.app (.loc 5) (.loc 6))], .set 8 (.call "state_trail" [.loc 1, .loc 2, .loc 3]), .ife (.or (.tru (.cmp (.ne) (.bi (.repr) [.loc 8]) (.bi (.repr) [.loc 5]))) (.tru (.cmp (.ne) (.bi (.repr) [.fls [.loc 1, .loc 2, .loc 3]]) (.loc 4)))) [.ret (.bl false)] [], .forS (.nm 9) (.over (.loc 8)) [.expr (.app (.ix (.loc 9) (.int 1)) (.non))], .ife (.tru (.cmp (.ne) (.frz (.lc (.nm 9) (.over (.loc 8)) [.tru (.cmp (.ne) (.bi (.len) [.ix (.loc 9) (.int 1)]) (.bin (.add) (.bi (.len) [.ix (.loc 1) (.int 1)]) (.int 1)))] (.loc 9) [9])) (.fls []))) [.ret (.bl false)] [], .set 8 (.call "turned_state" [.loc 1, .loc 2, .loc 3]), .ife (.tru (.cmp (.ne) (.bi (.repr) [.loc 8]) (.bi (.repr) [.ite (.tru (.cmp (.ne) (.loc 5) (.fls []))) (.ix (.loc 5) (.neg (.int 1))) (.loc 2)]))) [.ret (.bl false)] [], .expr (.app (.ix (.loc 8) (.int 1)) (.non)), .ife (.tru (.cmp (.ne) (.bi (.repr) [.call "turned_state" [.loc 1, .loc 2, .fcall "_law_parted" [.loc 0, .loc 3]]]) (.bi (.repr) [.ite (.tru (.cmp (.ne) (.loc 5) (.fls []))) (.ix (.loc 5) (.neg (.int 1))) (.loc 2)]))) [.ret (.bl false)] [], .set 10 (.fcall "_law_draw" [.loc 0, .bin (.add) (.bi (.len) [.loc 3]) (.int 1)]), .set 11 (.call "turned_state" [.loc 1, .loc 2, .frz (.slice (.loc 3) none (some (.loc 10)))]), .ret (.cmp (.eq) (.bi (.repr) [.call "turned_state" [.loc 1, .loc 11, .frz (.slice (.loc 3) (some (.loc 10)) none)]]) (.bi (.repr) [.ite (.tru (.cmp (.ne) (.loc 5) (.fls []))) (.ix (.loc 5) (.neg (.int 1))) (.loc 2)]))]⟩
def ir_law_right_3 : Fn := ⟨7, 4, [.set 4 (.bi (.repr) [.fls [.loc 0, .loc 1]]), .forS (.nm 5) (.rng1 (.int 2)) [.set 6 (.lst [.fcallk "moved_wheels" [.loc 2, .loc 1, .loc 0] [2, 1, 0], .fcallk "click_row" [.loc 2, .loc 1, .loc 0] [2, 1, 0]]), .ife (.or (.tru (.cmp (.ne) (.bi (.repr) [.loc 6]) (.bi (.repr) [.loc 3]))) (.tru (.cmp (.ne) (.bi (.repr) [.fls [.loc 0, .loc 1]]) (.loc 4)))) [.ret (.bl false)] [], .expr (.app (.ix (.loc 6) (.int 0)) (.non)), .expr (.app (.ix (.loc 6) (.int 1)) (.non))], .ret (.cmp (.eq) (.bi (.repr) [.fls [.fcall "moved_wheels" [.loc 0, .loc 1, .loc 2], .fcall "click_row" [.loc 0, .loc 1, .loc 2]]]) (.bi (.repr) [.loc 3]))]⟩
def ir_law_right_4 : Fn := ⟨12, 4, [.par [4, 5, 6] [.bi (.repr) [.fls [.loc 1, .loc 2, .loc 3]], .lst [], .loc 2], .forS (.nm 7) (.over (.loc 3)) [.set 6 (.fcall "_law_turned" [.loc 1, .loc 6, .loc 7]), .expr (.app (.loc 5) (.loc 6))], .set 8 (.call "state_trail" [.loc 1, .loc 2, .loc 3]), .ife (.or (.tru (.cmp (.ne) (.bi (.repr) [.loc 8]) (.bi (.repr) [.loc 5]))) (.tru (.cmp (.ne) (.bi (.repr) [.fls [.loc 1, .loc 2, .loc 3]]) (.loc 4)))) [.ret (.bl false)] [], .forS (.nm 9) (.over (.loc 8)) [.expr (.app (.ix (.loc 9) (.int 1)) (.non))], .ife (.tru (.cmp (.ne) (.frz (.lc (.nm 9) (.over (.loc 8)) [.tru (.cmp (.ne) (.bi (.len) [.ix (.loc 9) (.int 1)]) (.bin (.add) (.bi (.len) [.ix (.loc 1) (.int 1)]) (.int 1)))] (.loc 9) [9])) (.fls []))) [.ret (.bl false)] [], .set 8 (.call "turned_state" [.loc 1, .loc 2, .loc 3]), .ife (.tru (.cmp (.ne) (.bi (.repr) [.loc 8]) (.bi (.repr) [.ite (.tru (.cmp (.ne) (.loc 5) (.fls []))) (.ix (.loc 5) (.neg (.int 1))) (.loc 2)]))) [.ret (.bl false)] [], .expr (.app (.ix (.loc 8) (.int 1)) (.non)), .ife (.tru (.cmp (.ne) (.bi (.repr) [.fcall "turned_state" [.loc 1, .loc 2, .fcall "_law_parted" [.loc 0, .loc 3]]]) (.bi (.repr) [.ite (.tru (.cmp (.ne) (.loc 5) (.fls []))) (.ix (.loc 5) (.neg (.int 1))) (.loc 2)]))) [.ret (.bl false)] [], .set 10 (.fcall "_law_draw" [.loc 0, .bin (.add) (.bi (.len) [.loc 3]) (.int 1)]), .set 11 (.fcall "turned_state" [.loc 1, .loc 2, .frz (.slice (.loc 3) none (some (.loc 10)))]), .ret (.cmp (.eq) (.bi (.repr) [.fcall "turned_state" [.loc 1, .loc 11, .frz (.slice (.loc 3) (some (.loc 10)) none)]]) (.bi (.repr) [.ite (.tru (.cmp (.ne) (.loc 5) (.fls []))) (.ix (.loc 5) (.neg (.int 1))) (.loc 2)]))]⟩
def ir_law : Fn := ⟨6, 1, [.set 1 (.call "_law_stock" [.loc 0]), .forS (.nm 2) (.rng1 (.int 6)) [.set 3 (.fcall "_law_turns" [.loc 1, .fcall "_law_draw" [.loc 1, .int 12], .int 40]), .forS (.nm 4) (.over (.fcall "_law_reaches" [.loc 1, .loc 3])) [.ife (.not (.tru (.fcall "_law_right" [.loc 3, .loc 4, .fcall "_law_by_units" [.loc 4, .loc 3]]))) [.ret (.bl false)] []], .set 3 (.fcall "_law_turns" [.loc 1, .ix (.fls [.int 60, .fcall "_law_draw" [.loc 1, .int 61]]) (.fcall "_law_draw" [.loc 1, .int 2]), .ix (.fls [.bin (.pow) (.int 10) (.int 28), .int 500]) (.fcall "_law_draw" [.loc 1, .int 2])]), .forS (.nm 4) (.over (.fcall "_law_reaches" [.loc 1, .loc 3])) [.ife (.not (.tru (.fcall "_law_right" [.loc 3, .loc 4, .fcall "_law_place" [.loc 4, .loc 3]]))) [.ret (.bl false)] []]], .set 5 (.frz (.lc (.nm 4) (.over (.tup [.int 0, .int 90, .int 100, .int 150, .bin (.pow) (.int 10) (.int 29)])) [] (.fcall "place_behind" [.loc 4, .fls [.int 300, .neg (.int 100)]]) [4])), .ret (.and (.cmp (.eq) (.bi (.repr) [.loc 5]) (.bi (.repr) [.fls [.int 200, .int 200, .int 200, .int 150, .int 0]])) (.cmp (.eq) (.fcall "place_behind" [.int 7, .fls []]) (.int 0)))]⟩
def ir_law_1 : Fn := ⟨9, 1, [.set 1 (.call "_law_stock" [.loc 0]), .forS (.nm 2) (.rng1 (.int 4)) [.set 3 (.fcall "_law_turns" [.loc 1, .fcall "_law_draw" [.loc 1, .int 10], .int 20]), .ife (.not (.tru (.fcall "_law_small_right" [.loc 1, .loc 3, .ix (.fls [.int 0, .fcall "_law_draw" [.loc 1, .int 90], .int 90]) (.fcall "_law_draw" [.loc 1, .int 3])]))) [.ret (.bl false)] [], .set 3 (.fcall "_law_turns" [.loc 1, .ix (.fls [.int 60, .fcall "_law_draw" [.loc 1, .int 61]]) (.fcall "_law_draw" [.loc 1, .int 2]), .ix (.fls [.bin (.pow) (.int 10) (.int 28), .int 500]) (.fcall "_law_draw" [.loc 1, .int 2])]), .set 4 (.bi (.sum) [.frz (.lc (.nm 8) (.over (.loc 3)) [] (.bi (.abs) [.loc 8]) [8])]), .forS (.nm 5) (.over (.tup [.int 0, .loc 4, .bin (.fdiv) (.loc 4) (.int 2), .fcall "_law_draw" [.loc 1, .bin (.add) (.loc 4) (.int 1)], .bin (.pow) (.int 10) (.int 29)])) [.ife (.not (.tru (.fcall "_law_great_right" [.loc 1, .loc 3, .loc 5]))) [.ret (.bl false)] []]], .set 6 (.frz (.lc (.nm 7) (.over (.tup [.int 200, .int 150, .int 0, .int 210])) [] (.call "reaches_for" [.fls [.int 300, .neg (.int 100)], .loc 7, .int 400]) [7])), .ret (.cmp (.eq) (.bi (.repr) [.loc 6]) (.bi (.repr) [.fls [.fls [.tup [.int 0, .int 100]], .fls [.tup [.int 150, .int 150]], .fls [.tup [.int 300, .int 400]], .fls []]]))]⟩
def ir_law_2 : Fn := ⟨5, 1, [.set 1 (.call "_law_stock" [.loc 0]), .forS (.nm 2) (.rng1 (.int 4)) [.ife (.or (.not (.tru (.fcall "_law_small_right" [.loc 1]))) (.not (.tru (.fcall "_law_great_right" [.loc 1])))) [.ret (.bl false)] []], .set 3 (.frz (.lc (.nm 4) (.over (.tup [.int 50, .int 0])) [] (.call "reaches_open" [.int 100, .fls [.int 300, .neg (.int 100)], .loc 4, .int 2, .int 400]) [4])), .ret (.cmp (.eq) (.bi (.repr) [.loc 3]) (.bi (.repr) [.fls [.fls [.tup [.int 148, .int 152], .tup [.int 248, .int 252]], .fls [.tup [.int 0, .int 102], .tup [.int 198, .int 202], .tup [.int 298, .int 400]]]]))]⟩
def ir_law_3 : Fn := ⟨4, 1, [.forS (.nm 1) (.rng1 (.bi (.max) [.int 1, .bi (.min) [.int 3, .bi (.len) [.loc 0]]])) [.set 2 (.call "_law_pool" [.loc 0, .loc 1]), .forS (.nm 3) (.rng1 (.int 5)) [.ife (.not (.tru (.fcall "_law_right" [.loc 2, .fcall "_law_draw" [.loc 2, .int 13]]))) [.ret (.bl false)] []], .ife (.and (.tru (.cmp (.eq) (.loc 1) (.int 0))) (.not (.tru (.fcall "_law_right" [.loc 2, .int 60])))) [.ret (.bl false)] []], .ret (.bl true)]⟩
def ir_law_4 : Fn := ⟨9, 1, [.forS (.nm 1) (.rng1 (.bi (.max) [.int 1, .bi (.min) [.int 8, .bi (.len) [.loc 0]]])) [.set 2 (.call "_law_coil" [.loc 0, .loc 1]), .forS (.nm 3) (.rng1 (.int 4)) [.set 4 (.fcall "_law_pack" [.loc 2, .int 8, .ix (.fls [.int 30, .bin (.pow) (.int 10) (.int 27)]) (.fcall "_law_draw" [.loc 2, .int 2])]), .set 5 (.ix (.fls [.int 9, .bin (.mul) (.int 3) (.ix (.loc 4) (.int 0)), .bin (.pow) (.int 10) (.int 29)]) (.fcall "_law_draw" [.loc 2, .int 3])), .set 6 (.fcall "_law_stand" [.loc 2, .loc 4, .loc 5]), .set 7 (.callk "numbers_of" [.loc 6, .loc 4] [1, 0]), .ife (.tru (.cmp (.ne) (.bi (.repr) [.loc 7]) (.bi (.repr) [.fcall "_law_numbers" [.loc 4, .loc 6]]))) [.ret (.bl false)] [], .expr (.app (.loc 7) (.non)), .ife (.tru (.cmp (.ne) (.bi (.repr) [.call "numbers_of" [.loc 4, .loc 6]]) (.bi (.repr) [.fcall "_law_numbers" [.loc 4, .loc 6]]))) [.ret (.bl false)] [], .ife (.or (.not (.tru (.fcall "_law_pushed_right" [.loc 4, .ix (.loc 6) (.int 0)]))) (.not (.tru (.fcall "_law_around_right" [.loc 2, .loc 4, .loc 6])))) [.ret (.bl false)] []]], .set 7 (.lc (.nm 8) (.over (.tup [.int 98, .int 99, .int 0, .int 1, .int 2])) [] (.fcall "is_open" [.tup [.int 100, .fls [.int 90]], .tup [.int 0, .fls [.int 0]], .fls [.loc 8], .int 1]) [8]), .ret (.cmp (.eq) (.loc 7) (.fls [.bl false, .bl true, .bl true, .bl true, .bl false]))]⟩
def ir_law_5 : Fn := ⟨8, 1, [.forS (.nm 1) (.rng1 (.bi (.max) [.int 1, .bi (.min) [.int 8, .bi (.len) [.loc 0]]])) [.set 2 (.call "_law_coil" [.loc 0, .loc 1]), .forS (.nm 3) (.rng1 (.int 3)) [.set 4 (.fcall "_law_pack" [.loc 2, .int 8, .ix (.fls [.int 30, .bin (.pow) (.int 10) (.int 27)]) (.fcall "_law_draw" [.loc 2, .int 2])]), .set 5 (.fcall "_law_stand" [.loc 2, .loc 4, .ix (.fls [.int 99, .bin (.pow) (.int 10) (.int 29)]) (.fcall "_law_draw" [.loc 2, .int 2])]), .set 6 (.ix (.fls [.bin (.mul) (.int 4) (.ix (.loc 4) (.int 0)), .bin (.pow) (.int 10) (.int 27)]) (.fcall "_law_draw" [.loc 2, .int 2])), .set 7 (.fcall "_law_swings" [.loc 2, .loc 4, .ix (.fls [.int 5, .int 60, .int 30]) (.fcall "_law_draw" [.loc 2, .int 3]), .loc 6]), .ife (.not (.tru (.fcall "_law_right" [.loc 2, .loc 4, .loc 5, .loc 7]))) [.ret (.bl false)] []]], .par [4, 5] [.tup [.bin (.sub) (.bin (.pow) (.int 10) (.int 30)) (.int 1), .frz (.bin (.mul) (.lst [.bin (.sub) (.bin (.pow) (.int 10) (.int 30)) (.int 1)]) (.int 8))], .tup [.int 0, .frz (.bin (.mul) (.lst [.int 0]) (.int 8))]], .ife (.not (.tru (.fcall "_law_right" [.call "_law_coil" [.fls [], .int 1], .loc 4, .loc 5, .frz (.bin (.mul) (.lst [.bin (.sub) (.bin (.pow) (.int 10) (.int 30)) (.int 1), .bin (.sub) (.int 2) (.bin (.pow) (.int 10) (.int 30))]) (.int 30))]))) [.ret (.bl false)] [], .par [4, 5] [.tup [.bin (.pow) (.int 10) (.int 29), .frz (.bin (.mul) (.lst [.bin (.sub) (.bin (.pow) (.int 10) (.int 29)) (.int 1)]) (.int 8))], .tup [.int 0, .frz (.bin (.mul) (.lst [.int 0]) (.int 8))]], .ret (.fcall "_law_right" [.call "_law_coil" [.fls [], .int 0], .loc 4, .loc 5, .frz (.bin (.mul) (.lst [.bin (.pow) (.int 10) (.int 29), .bin (.add) (.neg (.bin (.pow) (.int 10) (.int 29))) (.int 1)]) (.int 30))])]⟩
def ir_law_6 : Fn := ⟨12, 1, [.forS (.nm 1) (.rng1 (.bi (.max) [.int 1, .bi (.min) [.int 6, .bi (.len) [.loc 0]]])) [.set 2 (.call "_law_coil" [.loc 0, .loc 1]), .forS (.nm 3) (.rng1 (.int 2)) [.set 4 (.fcall "_law_pack" [.loc 2, .int 6, .int 9]), .set 5 (.fcall "_law_stand" [.loc 2, .loc 4, .int 40]), .forS (.nm 6) (.over (.fcall "_law_some" [.loc 2, .loc 4, .loc 5, .int 50])) [.set 7 (.fcall "_law_walked" [.loc 4, .loc 5, .loc 6]), .ife (.or (.tru (.cmp (.ne) (.loc 7) (.fcall "_law_due" [.loc 4, .loc 5, .loc 6]))) (.not (.tru (.fcall "_law_right" [.loc 4, .loc 5, .loc 6, .loc 7])))) [.ret (.bl false)] []], .set 4 (.fcall "_law_pack" [.loc 2, .int 8, .bin (.pow) (.int 10) (.int 27)]), .set 5 (.fcall "_law_stand" [.loc 2, .loc 4, .bin (.pow) (.int 10) (.int 29)]), .forS (.nm 6) (.over (.fcall "_law_some" [.loc 2, .loc 4, .loc 5, .bin (.pow) (.int 10) (.int 28)])) [.set 8 (.fcall "_law_turned" [.loc 4, .loc 5, .loc 6]), .set 7 (.fcall "_law_due" [.loc 4, .loc 5, .loc 6]), .ife (.tru (.cmp (.ne) (.ix (.loc 7) (.int 0)) (.frz (.lc (.tup [.nm 10, .nm 11]) (.enum (.ix (.loc 5) (.int 1))) [.tru (.cmp (.ne) (.ix (.ix (.loc 8) (.int 1)) (.loc 10)) (.loc 11))] (.bin (.add) (.loc 10) (.int 1)) [10, 11])))) [.ret (.bl false)] [], .ife (.not (.tru (.fcall "_law_right" [.loc 4, .loc 5, .loc 6, .loc 7]))) [.ret (.bl false)] []]]], .set 4 (.tup [.int 100, .fls [.int 90, .int 0]]), .set 9 (.lst [.fcall "click_row" [.loc 4, .tup [.int 90, .fls [.int 0, .int 0]], .neg (.int 95)], .fcall "click_row" [.loc 4, .tup [.int 90, .fls [.int 90, .int 90]], .neg (.int 5)]]), .expr (.app (.loc 9) (.fcall "moved_wheels" [.loc 4, .tup [.int 90, .fls [.int 0, .int 0]], .neg (.int 90)])), .ret (.cmp (.eq) (.loc 9) (.fls [.fls [.tup [.int 0, .int 1], .tup [.int 0, .int 2]], .fls [], .fls []]))]⟩
def ir_law_7 : Fn := ⟨9, 1, [.forS (.nm 1) (.rng1 (.bi (.max) [.int 1, .bi (.min) [.int 8, .bi (.len) [.loc 0]]])) [.set 2 (.call "_law_coil" [.loc 0, .loc 1]), .forS (.nm 3) (.rng1 (.int 4)) [.set 4 (.fcall "_law_pack" [.loc 2, .int 8, .ix (.fls [.int 30, .bin (.pow) (.int 10) (.int 27)]) (.fcall "_law_draw" [.loc 2, .int 2])]), .set 5 (.ix (.fls [.int 9, .bin (.mul) (.int 3) (.ix (.loc 4) (.int 0)), .bin (.pow) (.int 10) (.int 29)]) (.fcall "_law_draw" [.loc 2, .int 3])), .set 6 (.fcall "_law_stand" [.loc 2, .loc 4, .loc 5]), .set 7 (.callk "numbers_of" [.loc 6, .loc 4] [1, 0]), .ife (.tru (.cmp (.ne) (.bi (.repr) [.loc 7]) (.bi (.repr) [.fcall "_law_numbers" [.loc 4, .loc 6]]))) [.ret (.bl false)] [], .expr (.app (.loc 7) (.non)), .ife (.tru (.cmp (.ne) (.bi (.repr) [.fcall "numbers_of" [.loc 4, .loc 6]]) (.bi (.repr) [.fcall "_law_numbers" [.loc 4, .loc 6]]))) [.ret (.bl false)] [], .ife (.or (.not (.tru (.fcall "_law_pushed_right" [.loc 4, .ix (.loc 6) (.int 0)]))) (.not (.tru (.fcall "_law_around_right" [.loc 2, .loc 4, .loc 6])))) [.ret (.bl false)] []]], .set 7 (.lc (.nm 8) (.over (.tup [.int 98, .int 99, .int 0, .int 1, .int 2])) [] (.fcall "is_open" [.tup [.int 100, .fls [.int 90]], .tup [.int 0, .fls [.int 0]], .fls [.loc 8], .int 1]) [8]), .ret (.cmp (.eq) (.loc 7) (.fls [.bl false, .bl true, .bl true, .bl true, .bl false]))]⟩
def ir_check_dial : Fn := ⟨1, 1, [.ife (.not (.tru (.fcall "is_integer" [.loc 0]))) [.stop] []]⟩
def ir_corners : Fn := ⟨10, 1, [.set 1 (.fls [.tup [.int 0, .int 0]]), .forS (.tup [.nm 2, .nm 3]) (.zip (.loc 0) (.fcall "stops_of" [.int 0, .loc 0])) [.set 4 (.frz (.lc (.tup [.nm 8, .nm 9]) (.over (.loc 1)) [.stop] (.tup [.loc 8, .loc 9]) [8, 9])), .tset (.tup [.nm 5, .nm 6]) (.ix (.loc 1) (.bin (.sub) (.bin (.sub) (.bi (.len) [.loc 1]) (.bi (.len) [.loc 4])) (.int 1))), .set 7 (.lst [.tup [.int 0, .loc 3]]), .ife (.tru (.cmp (.gt) (.loc 2) (.int 0))) [.expr (.app (.loc 7) (.tup [.bin (.sub) (.loc 3) (.loc 6), .loc 6]))] [.ife (.tru (.loc 4)) [.expr (.app (.loc 7) (.tup [.bin (.sub) (.bin (.add) (.loc 5) (.loc 6)) (.loc 3), .loc 3]))] []], .set 1 (.bin (.add) (.loc 7) (.loc 4))], .ret (.loc 1)]⟩
def ir_reaches_between : Fn := ⟨9, 4, [.set 4 (.frz (.lc (.tup [.nm 7, .nm 8]) (.over (.loc 0)) [.tru (.cmp (.le) (.loc 8) (.loc 2))] (.bi (.max) [.int 0, .bin (.add) (.bin (.sub) (.loc 7) (.loc 2)) (.loc 8)]) [7, 8])), .set 5 (.frz (.lc (.tup [.nm 7, .nm 8]) (.over (.loc 0)) [.tru (.cmp (.ge) (.loc 8) (.loc 1))] (.bin (.sub) (.bin (.add) (.loc 7) (.loc 8)) (.loc 1)) [7, 8])), .ife (.or (.not (.tru (.loc 4))) (.not (.tru (.loc 5)))) [.ret (.fls [])] [], .set 6 (.ite (.tru (.cmp (.eq) (.bi (.len) [.loc 5]) (.bi (.len) [.loc 0]))) (.loc 3) (.bi (.min) [.ix (.loc 5) (.neg (.int 1)), .loc 3])), .ret (.ite (.tru (.cmp (.le) (.ix (.loc 4) (.int 0)) (.loc 6))) (.fls [.tup [.ix (.loc 4) (.int 0), .loc 6]]) (.fls []))]⟩
def ir_reaches_for : Fn := ⟨3, 3, [.expr (.fcall "check_turns" [.loc 0]), .expr (.fcall "check_dial" [.loc 1]), .expr (.fcall "check_at_least" [.loc 2, .int 0]), .ret (.call "_reaches_between" [.fcall "_corners" [.loc 0], .loc 1, .loc 1, .loc 2])]⟩
def ir_law_stretches : Fn := ⟨3, 1, [.set 1 (.lst []), .forS (.nm 2) (.over (.loc 0)) [.ife (.and (.tru (.cmp (.ne) (.loc 1) (.fls []))) (.tru (.cmp (.eq) (.bin (.add) (.ix (.ix (.loc 1) (.neg (.int 1))) (.int 1)) (.int 1)) (.loc 2)))) [.setix (.loc 1) (.neg (.int 1)) (.tup [.ix (.ix (.loc 1) (.neg (.int 1))) (.int 0), .loc 2])] [.expr (.app (.loc 1) (.tup [.loc 2, .loc 2]))]], .ret (.loc 1)]⟩
def ir_law_small_right : Fn := ⟨10, 3, [.stop, .set 5 (.stop), .forS (.nm 6) (.over (.bin (.add) (.loc 5) (.fls [.bin (.sub) (.ix (.loc 5) (.int 0)) (.int 1), .bin (.add) (.ix (.loc 5) (.neg (.int 1))) (.int 1), .bin (.add) (.ix (.loc 5) (.neg (.int 1))) (.int 50)]))) [.set 7 (.bi (.repr) [.fcall "_law_stretches" [.frz (.lc (.nm 9) (.rng1 (.bin (.add) (.loc 2) (.int 1))) [.tru (.cmp (.eq) (.ix (.loc 3) (.loc 9)) (.loc 6))] (.loc 9) [9])]]), .set 8 (.callk "reaches_for" [.loc 2, .loc 6, .loc 1] [2, 1, 0]), .ife (.or (.tru (.cmp (.ne) (.bi (.repr) [.loc 8]) (.loc 7))) (.tru (.cmp (.ne) (.loc 1) (.loc 4)))) [.ret (.bl false)] [], .expr (.app (.loc 8) (.non)), .ife (.tru (.cmp (.ne) (.bi (.repr) [.call "reaches_for" [.loc 1, .loc 6, .loc 2]]) (.loc 7))) [.ret (.bl false)] []], .ret (.bl true)]⟩
def ir_law_small_right_1 : Fn := ⟨11, 1, [.set 1 (.bin (.add) (.int 2) (.fcall "_law_draw" [.loc 0, .ix (.fls [.int 2, .int 14]) (.fcall "_law_draw" [.loc 0, .int 2])])), .stop, .tset (.tup [.nm 4, .nm 5]) (.fcall "_law_gate" [.loc 0, .loc 1]), .set 6 (.frz (.lc (.nm 10) (.rng1 (.bin (.add) (.loc 3) (.int 1))) [.tru (.fcall "_law_is_in" [.loc 1, .fcall "_law_place" [.loc 10, .loc 2], .loc 4, .loc 5])] (.loc 10) [10])), .par [7, 8] [.bi (.repr) [.fcall "_law_stretches" [.loc 6]], .frz (.bi (.list) [.loc 2])], .set 9 (.callk "reaches_open" [.loc 3, .loc 5, .loc 4, .loc 2, .loc 1] [4, 3, 2, 1, 0]), .ife (.or (.tru (.cmp (.ne) (.bi (.repr) [.loc 9]) (.loc 7))) (.tru (.cmp (.ne) (.loc 2) (.loc 8)))) [.ret (.bl false)] [], .expr (.app (.loc 9) (.non)), .ret (.cmp (.eq) (.bi (.repr) [.call "reaches_open" [.loc 1, .loc 2, .loc 4, .loc 5, .loc 3]]) (.loc 7))]⟩
def ir_law_great_right : Fn := ⟨13, 3, [.set 3 (.fcall "_law_draw" [.loc 0, .bin (.add) (.loc 2) (.int 1)]), .par [4, 5] [.fcall "_law_place" [.loc 3, .loc 1], .frz (.bi (.list) [.loc 1])], .set 6 (.call "reaches_for" [.loc 1, .loc 4, .loc 2]), .ife (.or (.tru (.cmp (.ne) (.bi (.len) [.loc 6]) (.int 1))) (.or (.not (.stop)) (.or (.tru (.cmp (.lt) (.ix (.ix (.loc 6) (.int 0)) (.int 0)) (.int 0))) (.tru (.cmp (.ne) (.loc 1) (.loc 5)))))) [.ret (.bl false)] [], .tset (.tup [.nm 7, .nm 8]) (.ix (.loc 6) (.int 0)), .ife (.tru (.cmp (.ne) (.frz (.lc (.nm 11) (.over (.tup [.loc 7, .loc 8])) [] (.fcall "_law_place" [.loc 11, .loc 1]) [11])) (.fls [.loc 4, .loc 4]))) [.ret (.bl false)] [], .ife (.or (.and (.tru (.cmp (.gt) (.loc 7) (.int 0))) (.tru (.cmp (.eq) (.fcall "_law_place" [.bin (.sub) (.loc 7) (.int 1), .loc 1]) (.loc 4)))) (.and (.tru (.cmp (.lt) (.loc 8) (.loc 2))) (.tru (.cmp (.eq) (.fcall "_law_place" [.bin (.add) (.loc 8) (.int 1), .loc 1]) (.loc 4))))) [.ret (.bl false)] [], .forS (.nm 9) (.over (.tup [.loc 7, .loc 8, .loc 3])) [.ife (.tru (.cmp (.ne) (.bi (.repr) [.call "reaches_for" [.loc 1, .loc 4, .loc 9]]) (.bi (.repr) [.fls [.tup [.loc 7, .loc 9]]]))) [.ret (.bl false)] []], .ife (.and (.tru (.cmp (.gt) (.loc 7) (.int 0))) (.tru (.cmp (.ne) (.call "reaches_for" [.loc 1, .loc 4, .bin (.sub) (.loc 7) (.int 1)]) (.fls [])))) [.ret (.bl false)] [], .set 10 (.fls [.bin (.add) (.fcall "_law_place" [.int 0, .loc 1]) (.int 1), .bin (.sub) (.fcall "_law_place" [.loc 2, .loc 1]) (.int 1)]), .ret (.cmp (.eq) (.frz (.lc (.nm 12) (.over (.loc 10)) [] (.call "reaches_for" [.loc 1, .loc 12, .loc 2]) [12])) (.fls [.fls [], .fls []]))]⟩
def ir_law_great_right_1 : Fn := ⟨15, 1, [.set 1 (.bin (.add) (.int 2) (.fcall "_law_draw" [.loc 0, .ix (.fls [.bin (.pow) (.int 10) (.int 26), .int 1000]) (.fcall "_law_draw" [.loc 0, .int 2])])), .tset (.tup [.nm 2, .nm 3]) (.ix (.fls [.tup [.fcall "_law_draw" [.loc 0, .int 15], .int 100], .tup [.fcall "_law_draw" [.loc 0, .int 61], .int 4]]) (.bi (.toInt) [.cmp (.gt) (.loc 1) (.int 1002)])), .stop, .tset (.tup [.nm 6, .nm 7]) (.fcall "_law_gate" [.loc 0, .loc 1]), .par [8, 9] [.call "reaches_open" [.loc 1, .loc 4, .loc 6, .loc 7, .loc 5], .neg (.int 2)], .forS (.tup [.nm 10, .nm 11]) (.over (.loc 8)) [.ife (.not (.stop)) [.ret (.bl false)] [], .forS (.nm 12) (.over (.tup [.loc 10, .loc 11, .bin (.add) (.loc 10) (.fcall "_law_draw" [.loc 0, .bin (.add) (.bin (.sub) (.loc 11) (.loc 10)) (.int 1)])])) [.ife (.not (.tru (.fcall "_law_is_in" [.loc 1, .fcall "_law_place" [.loc 12, .loc 4], .loc 6, .loc 7]))) [.ret (.bl false)] []], .forS (.nm 12) (.over (.tup [.bin (.sub) (.loc 10) (.int 1), .bin (.add) (.loc 11) (.int 1)])) [.ife (.and (.tru (.chain (.le) (.le) (.int 0) (.loc 12) (.loc 5))) (.tru (.fcall "_law_is_in" [.loc 1, .fcall "_law_place" [.loc 12, .loc 4], .loc 6, .loc 7]))) [.ret (.bl false)] []], .set 9 (.loc 11)], .forS (.nm 12) (.over (.frz (.bin (.add) (.lst [.int 0, .loc 5]) (.frz (.lc (.nm 14) (.rng1 (.int 9)) [] (.fcall "_law_draw" [.loc 0, .bin (.add) (.loc 5) (.int 1)]) [14]))))) [.set 13 (.cmp (.ne) (.frz (.lc (.tup [.nm 10, .nm 11]) (.over (.loc 8)) [.tru (.chain (.le) (.le) (.loc 10) (.loc 12) (.loc 11))] (.int 1) [10, 11])) (.fls [])), .ife (.tru (.cmp (.ne) (.loc 13) (.fcall "_law_is_in" [.loc 1, .fcall "_law_place" [.loc 12, .loc 4], .loc 6, .loc 7]))) [.ret (.bl false)] []], .ret (.bl true)]⟩
def ir_is_within : Fn := ⟨3, 3, [.ret (.and (.fcall "is_integer" [.loc 0]) (.chain (.le) (.le) (.loc 1) (.loc 0) (.loc 2)))]⟩
def ir_check_number : Fn := ⟨2, 2, [.ife (.not (.tru (.fcall "is_within" [.loc 0, .int 0, .loc 1]))) [.stop] []]⟩
def ir_check_tolerance : Fn := ⟨2, 2, [.ife (.not (.tru (.fcall "is_within" [.loc 1, .int 0, .bin (.fdiv) (.bin (.sub) (.loc 0) (.int 1)) (.int 2)]))) [.stop] []]⟩
def ir_takes_ring : Fn := ⟨2, 2, [.ret (.cmp (.eq) (.bin (.mul) (.int 2) (.loc 1)) (.bin (.sub) (.loc 0) (.int 1)))]⟩
def ir_reaches_open : Fn := ⟨11, 5, [.expr (.fcall "check_at_least" [.loc 0, .int 2]), .expr (.fcall "check_turns" [.loc 1]), .expr (.fcall "check_number" [.loc 2, .bin (.sub) (.loc 0) (.int 1)]), .expr (.fcall "check_tolerance" [.loc 0, .loc 3]), .expr (.fcall "check_at_least" [.loc 4, .int 0]), .ife (.tru (.fcall "takes_ring" [.loc 0, .loc 3])) [.ret (.lst [.tup [.int 0, .loc 4]])] [], .set 5 (.fcall "_corners" [.loc 1]), .par [6, 7] [.ix (.ix (.loc 5) (.int 0)) (.int 1), .fcall "place_behind" [.loc 4, .loc 1]], .set 8 (.bin (.sub) (.loc 6) (.bin (.mod) (.bin (.add) (.bin (.sub) (.loc 6) (.loc 2)) (.loc 3)) (.loc 0))), .set 9 (.lst []), .forS (.nm 10) (.stop) [.expr (.stop)], .ret (.loc 9)]⟩
def ir_law_is_in : Fn := ⟨4, 4, [.ret (.cmp (.le) (.bin (.mod) (.bi (.toInt) [.bin (.add) (.bin (.sub) (.loc 1) (.loc 2)) (.loc 3)]) (.loc 0)) (.bin (.mul) (.int 2) (.loc 3)))]⟩
def ir_law_is_in_1 : Fn := ⟨5, 4, [.forS (.nm 4) (.over (.tup [.bin (.sub) (.loc 2) (.loc 1), .bin (.add) (.bin (.sub) (.loc 2) (.loc 1)) (.loc 0), .bin (.sub) (.loc 1) (.loc 2), .bin (.add) (.bin (.sub) (.loc 1) (.loc 2)) (.loc 0)])) [.ife (.tru (.chain (.le) (.le) (.int 0) (.loc 4) (.loc 3))) [.ret (.bl true)] []], .ret (.bl false)]⟩
def ir_law_gate : Fn := ⟨3, 2, [.set 2 (.fls [.int 0, .bin (.fdiv) (.bin (.sub) (.loc 1) (.int 1)) (.int 2), .fcall "_law_draw" [.loc 0, .bin (.add) (.bin (.fdiv) (.bin (.sub) (.loc 1) (.int 1)) (.int 2)) (.int 1)], .bi (.min) [.int 1, .bin (.fdiv) (.bin (.sub) (.loc 1) (.int 1)) (.int 2)]]), .ret (.tup [.ix (.fls [.int 0, .bin (.sub) (.loc 1) (.int 1), .fcall "_law_draw" [.loc 0, .loc 1]]) (.fcall "_law_draw" [.loc 0, .int 3]), .ix (.loc 2) (.fcall "_law_draw" [.loc 0, .int 4])])]⟩
def ir_is_pair : Fn := ⟨1, 1, [.ret (.and (.isi (.loc 0) (.tuple)) (.cmp (.eq) (.bi (.len) [.loc 0]) (.int 2)))]⟩
def ir_are_plays : Fn := ⟨2, 1, [.ife (.or (.not (.tru (.isi (.loc 0) (.list)))) (.not (.tru (.chain (.le) (.le) (.int 1) (.bi (.len) [.loc 0]) (.int 8))))) [.ret (.bl false)] [], .ret (.bi (.all) [.frz (.lc (.nm 1) (.over (.loc 0)) [] (.fcall "is_at_least" [.loc 1, .int 0]) [1])])]⟩
def ir_are_places : Fn := ⟨6, 3, [.ife (.or (.not (.tru (.isi (.loc 2) (.list)))) (.tru (.cmp (.ne) (.bi (.len) [.loc 2]) (.bi (.len) [.loc 0])))) [.ret (.bl false)] [], .set 3 (.loc 1), .forS (.tup [.nm 4, .nm 5]) (.zip (.loc 0) (.loc 2)) [.ife (.or (.not (.tru (.fcall "is_integer" [.loc 5]))) (.not (.tru (.chain (.le) (.le) (.int 0) (.bin (.sub) (.loc 3) (.loc 5)) (.loc 4))))) [.ret (.bl false)] [], .set 3 (.loc 5)], .ret (.bl true)]⟩
def ir_check_lock : Fn := ⟨3, 1, [.ife (.not (.tru (.fcall "is_pair" [.loc 0]))) [.stop] [], .tset (.tup [.nm 1, .nm 2]) (.loc 0), .ife (.not (.tru (.fcall "is_at_least" [.loc 1, .int 2]))) [.stop] [], .ife (.not (.tru (.fcall "are_plays" [.loc 2]))) [.stop] []]⟩
def ir_check_state : Fn := ⟨4, 2, [.ife (.not (.tru (.fcall "is_pair" [.loc 1]))) [.stop] [], .tset (.tup [.nm 2, .nm 3]) (.loc 1), .ife (.not (.tru (.fcall "is_integer" [.loc 2]))) [.stop] [], .ife (.not (.tru (.fcall "are_places" [.ix (.loc 0) (.int 1), .loc 2, .loc 3]))) [.stop] []]⟩
def ir_pushed_up : Fn := ⟨5, 2, [.expr (.fcall "check_lock" [.loc 0]), .expr (.fcall "check_dial" [.loc 1]), .set 2 (.lst []), .set 3 (.loc 1), .forS (.nm 4) (.over (.ix (.loc 0) (.int 1))) [.set 3 (.bin (.sub) (.loc 3) (.loc 4)), .expr (.app (.loc 2) (.loc 3))], .ret (.tup [.loc 1, .loc 2])]⟩
def ir_pushed_back : Fn := ⟨2, 2, [.expr (.fcall "check_lock" [.loc 0]), .expr (.fcall "check_dial" [.loc 1]), .ret (.tup [.loc 1, .frz (.bin (.mul) (.lst [.loc 1]) (.bi (.len) [.ix (.loc 0) (.int 1)]))])]⟩
def ir_pushed_back_1 : Fn := ⟨2, 2, [.expr (.fcall "check_lock" [.loc 0]), .expr (.fcall "check_dial" [.loc 1]), .ret (.tup [.loc 1, .bin (.mul) (.lst [.loc 1]) (.bi (.len) [.ix (.loc 0) (.int 1)])])]⟩
def ir_turned_once : Fn := ⟨10, 3, [.tset (.tup [.nm 3, .nm 4]) (.loc 1), .set 5 (.bin (.add) (.loc 3) (.loc 2)), .set 6 (.lst []), .set 7 (.loc 5), .forS (.tup [.nm 8, .nm 9]) (.zip (.ix (.loc 0) (.int 1)) (.loc 4)) [.set 7 (.ite (.tru (.cmp (.gt) (.loc 2) (.int 0))) (.bi (.max) [.loc 9, .bin (.sub) (.loc 7) (.loc 8)]) (.bi (.min) [.loc 9, .loc 7])), .expr (.app (.loc 6) (.loc 7))], .ret (.tup [.loc 5, .loc 6])]⟩
def ir_turned_state : Fn := ⟨6, 3, [.set 3 (.fcall "state_trail" [.loc 0, .loc 1, .loc 2]), .ife (.tru (.loc 3)) [.ret (.ix (.loc 3) (.neg (.int 1)))] [], .tset (.tup [.nm 4, .nm 5]) (.loc 1), .ret (.tup [.loc 4, .frz (.bi (.list) [.loc 5])])]⟩
def ir_turned_state_1 : Fn := ⟨6, 3, [.set 3 (.call "state_trail" [.loc 0, .loc 1, .loc 2]), .ife (.tru (.loc 3)) [.ret (.ix (.loc 3) (.neg (.int 1)))] [], .tset (.tup [.nm 4, .nm 5]) (.loc 1), .ret (.tup [.loc 4, .frz (.bi (.list) [.loc 5])])]⟩
def ir_turned_state_2 : Fn := ⟨6, 3, [.set 3 (.fcall "state_trail" [.loc 0, .loc 1, .loc 2]), .ife (.tru (.loc 3)) [.ret (.ix (.loc 3) (.neg (.int 1)))] [], .tset (.tup [.nm 4, .nm 5]) (.loc 1), .ret (.tup [.loc 4, .bi (.list) [.loc 5]])]⟩
def ir_turned_state_3 : Fn := ⟨6, 3, [.set 3 (.call "state_trail" [.loc 0, .loc 1, .loc 2]), .ife (.tru (.loc 3)) [.ret (.ix (.loc 3) (.neg (.int 1)))] [], .tset (.tup [.nm 4, .nm 5]) (.loc 1), .ret (.tup [.loc 4, .bi (.list) [.loc 5]])]⟩
def ir_state_trail : Fn := ⟨6, 3, [.expr (.fcall "check_lock" [.loc 0]), .expr (.fcall "check_state" [.loc 0, .loc 1]), .expr (.fcall "check_turns" [.loc 2]), .set 3 (.lst []), .set 4 (.loc 1), .forS (.nm 5) (.over (.loc 2)) [.set 4 (.fcall "_turned_once" [.loc 0, .loc 4, .loc 5]), .expr (.app (.loc 3) (.loc 4))], .ret (.loc 3)]⟩
def ir_state_trail_1 : Fn := ⟨6, 3, [.expr (.fcall "check_lock" [.loc 0]), .expr (.fcall "check_state" [.loc 0, .loc 1]), .expr (.fcall "check_turns" [.loc 2]), .set 3 (.lst []), .set 4 (.loc 1), .forS (.nm 5) (.over (.loc 2)) [.set 4 (.call "_turned_once" [.loc 0, .loc 4, .loc 5]), .expr (.app (.loc 3) (.loc 4))], .ret (.loc 3)]⟩
def ir_effect_of : Fn := ⟨6, 2, [.expr (.fcall "check_lock" [.loc 0]), .expr (.fcall "check_turns" [.loc 1]), .tset (.tup [.nm 2, .nm 3]) (.fcall "turned_state" [.loc 0, .fcall "pushed_up" [.loc 0, .int 0], .loc 1]), .tset (.tup [.nm 4, .nm 5]) (.fcall "turned_state" [.loc 0, .fcall "pushed_back" [.loc 0, .int 0], .loc 1]), .ret (.tup [.loc 2, .frz (.bi (.list) [.stop])])]⟩
def ir_law_pool : Fn := ⟨3, 2, [.set 2 (.ite (.tru (.cmp (.lt) (.loc 1) (.bi (.len) [.loc 0]))) (.ix (.loc 0) (.loc 1)) (.int 0)), .ret (.lst [.bi (.max) [.int 0, .bin (.sub) (.bi (.abs) [.loc 2]) (.bin (.pow) (.int 10) (.int 18))], .bin (.add) (.bin (.mod) (.bi (.toInt) [.loc 2]) (.bin (.add) (.bin (.pow) (.int 10) (.int 21)) (.int 117))) (.bin (.mul) (.int 8191) (.bin (.add) (.loc 1) (.int 1))), .int 0])]⟩
def ir_law_box : Fn := ⟨8, 4, [.par [4, 5] [.bin (.add) (.int 2) (.fcall "_law_draw" [.loc 0, .ix (.fls [.int 3, .loc 3, .loc 3]) (.fcall "_law_draw" [.loc 0, .int 3])]), .lst []], .forS (.nm 6) (.rng1 (.bin (.add) (.int 1) (.fcall "_law_draw" [.loc 0, .loc 1]))) [.set 7 (.fls [.int 0, .bin (.sub) (.loc 4) (.int 1), .loc 4, .fcall "_law_draw" [.loc 0, .bin (.add) (.loc 2) (.int 1)], .fcall "_law_draw" [.loc 0, .bin (.add) (.loc 2) (.int 1)]]), .expr (.app (.loc 5) (.bi (.min) [.ix (.loc 7) (.fcall "_law_draw" [.loc 0, .int 5]), .loc 2]))], .ret (.tup [.loc 4, .loc 5])]⟩
def ir_law_row : Fn := ⟨6, 3, [.set 3 (.lst []), .forS (.nm 4) (.rng1 (.loc 1)) [.set 5 (.bin (.add) (.int 1) (.fcall "_law_draw" [.loc 0, .ix (.fls [.loc 2, .int 3, .loc 2]) (.fcall "_law_draw" [.loc 0, .int 3])])), .expr (.app (.loc 3) (.ix (.fls [.loc 5, .neg (.loc 5)]) (.fcall "_law_draw" [.loc 0, .int 2])))], .ret (.loc 3)]⟩
def ir_law_past : Fn := ⟨6, 3, [.par [3, 4] [.lst [], .loc 2], .forS (.nm 5) (.over (.ix (.loc 1) (.int 1))) [.set 4 (.bin (.sub) (.loc 4) (.ix (.fls [.int 0, .loc 5, .fcall "_law_draw" [.loc 0, .bin (.add) (.loc 5) (.int 1)], .fcall "_law_draw" [.loc 0, .bin (.add) (.loc 5) (.int 1)]]) (.fcall "_law_draw" [.loc 0, .int 4]))), .expr (.app (.loc 3) (.loc 4))], .ret (.tup [.loc 2, .loc 3])]⟩
def ir_law_behind : Fn := ⟨10, 3, [.par [3, 4] [.ix (.loc 1) (.int 0), .frz (.bi (.list) [.ix (.loc 1) (.int 1)])], .forS (.nm 5) (.over (.loc 2)) [.set 3 (.bin (.add) (.loc 3) (.loc 5)), .par [6, 7] [.loc 3, .lst []], .forS (.tup [.nm 8, .nm 9]) (.zip (.ix (.loc 0) (.int 1)) (.loc 4)) [.ife (.tru (.cmp (.gt) (.loc 5) (.int 0))) [.set 6 (.bi (.max) [.loc 9, .bin (.sub) (.loc 6) (.loc 8)])] [.set 6 (.bi (.min) [.loc 9, .loc 6])], .expr (.app (.loc 7) (.loc 6))], .set 4 (.loc 7)], .ret (.tup [.loc 3, .loc 4])]⟩
def ir_law_behind_1 : Fn := ⟨4, 3, [.forS (.nm 3) (.over (.loc 2)) [.set 1 (.fcall "_law_turned" [.loc 0, .loc 1, .loc 3])], .ret (.tup [.ix (.loc 1) (.int 0), .frz (.bi (.list) [.ix (.loc 1) (.int 1)])])]⟩
def ir_law_ends : Fn := ⟨4, 1, [.par [1, 2] [.lst [], .int 0], .forS (.nm 3) (.over (.ix (.loc 0) (.int 1))) [.set 2 (.bin (.sub) (.loc 2) (.loc 3)), .expr (.app (.loc 1) (.loc 2))], .ret (.fls [.tup [.int 0, .loc 1], .tup [.int 0, .frz (.bin (.mul) (.lst [.int 0]) (.bi (.len) [.ix (.loc 0) (.int 1)]))]])]⟩
def ir_check_gates : Fn := ⟨6, 2, [.tset (.tup [.nm 2, .nm 3]) (.loc 0), .ife (.or (.not (.tru (.isi (.loc 1) (.list)))) (.tru (.cmp (.ne) (.bi (.len) [.loc 1]) (.bi (.len) [.loc 3])))) [.stop] [], .forS (.tup [.nm 4, .nm 5]) (.enum (.loc 1)) [.ife (.not (.tru (.fcall "is_within" [.loc 5, .int 0, .bin (.sub) (.loc 2) (.int 1)]))) [.stop] []]]⟩
def ir_numbers_of : Fn := ⟨4, 2, [.expr (.fcall "check_lock" [.loc 0]), .expr (.fcall "check_state" [.loc 0, .loc 1]), .set 2 (.ix (.loc 0) (.int 0)), .ret (.lc (.nm 3) (.over (.ix (.loc 1) (.int 1))) [] (.bin (.mod) (.loc 3) (.loc 2)) [3])]⟩
def ir_in_gate : Fn := ⟨5, 4, [.set 4 (.bin (.mod) (.bin (.sub) (.loc 1) (.loc 2)) (.loc 0)), .ret (.or (.cmp (.le) (.loc 4) (.loc 3)) (.cmp (.ge) (.loc 4) (.bin (.sub) (.loc 0) (.loc 3))))]⟩
def ir_is_open : Fn := ⟨7, 4, [.expr (.fcall "check_lock" [.loc 0]), .expr (.fcall "check_state" [.loc 0, .loc 1]), .expr (.fcall "check_gates" [.loc 0, .loc 2]), .set 4 (.ix (.loc 0) (.int 0)), .expr (.fcall "check_tolerance" [.loc 4, .loc 3]), .ret (.bi (.all) [.frz (.lc (.tup [.nm 5, .nm 6]) (.zip (.ix (.loc 1) (.int 1)) (.loc 2)) [] (.fcall "in_gate" [.loc 4, .loc 5, .loc 6, .loc 3]) [5, 6])])]⟩
def ir_law_coil : Fn := ⟨3, 2, [.set 2 (.ite (.tru (.cmp (.lt) (.loc 1) (.bi (.len) [.loc 0]))) (.ix (.loc 0) (.loc 1)) (.int 0)), .ret (.lst [.bi (.max) [.int 0, .bin (.add) (.bin (.sub) (.bi (.abs) [.loc 2]) (.bin (.pow) (.int 10) (.int 18))) (.int 1)], .bin (.add) (.bin (.mod) (.bi (.toInt) [.loc 2]) (.bin (.add) (.bin (.pow) (.int 10) (.int 25)) (.int 13))) (.bin (.mul) (.int 60013) (.bin (.add) (.loc 1) (.int 1))), .int 0])]⟩
def ir_law_pack : Fn := ⟨7, 3, [.par [3, 4] [.ix (.fls [.int 2, .int 3, .bin (.add) (.int 2) (.fcall "_law_draw" [.loc 0, .int 12]), .bin (.add) (.int 2) (.fcall "_law_draw" [.loc 0, .loc 2])]) (.fcall "_law_draw" [.loc 0, .int 4]), .lst []], .forS (.nm 5) (.rng1 (.bin (.add) (.int 1) (.fcall "_law_draw" [.loc 0, .loc 1]))) [.set 6 (.fls [.int 0, .bin (.sub) (.loc 3) (.int 1), .loc 3, .fcall "_law_draw" [.loc 0, .loc 3], .fcall "_law_draw" [.loc 0, .bin (.mul) (.int 3) (.loc 3)]]), .expr (.app (.loc 4) (.ix (.loc 6) (.fcall "_law_draw" [.loc 0, .int 5])))], .ret (.tup [.loc 3, .loc 4])]⟩
def ir_law_stand : Fn := ⟨7, 3, [.set 3 (.bin (.sub) (.fcall "_law_draw" [.loc 0, .bin (.add) (.bin (.mul) (.int 2) (.loc 2)) (.int 1)]) (.loc 2)), .par [4, 5] [.lst [], .loc 3], .forS (.nm 6) (.over (.ix (.loc 1) (.int 1))) [.set 5 (.bin (.sub) (.loc 5) (.ix (.fls [.int 0, .loc 6, .fcall "_law_draw" [.loc 0, .bin (.add) (.loc 6) (.int 1)]]) (.fcall "_law_draw" [.loc 0, .int 3]))), .expr (.app (.loc 4) (.loc 5))], .ret (.tup [.loc 3, .loc 4])]⟩
def ir_law_numbers : Fn := ⟨3, 2, [.ret (.frz (.lc (.nm 2) (.over (.ix (.loc 1) (.int 1))) [] (.bin (.mod) (.bi (.toInt) [.loc 2]) (.ix (.loc 0) (.int 0))) [2]))]⟩
def ir_law_pushed_right : Fn := ⟨7, 2, [.forS (.nm 2) (.rng1 (.int 2)) [.par [3, 4] [.callk "pushed_up" [.loc 1, .loc 0] [1, 0], .callk "pushed_back" [.loc 1, .loc 0] [1, 0]], .ife (.tru (.cmp (.ne) (.bi (.repr) [.loc 3]) (.bi (.repr) [.tup [.loc 1, .frz (.lc (.nm 5) (.over (.fcall "_law_reaches" [.loc 0])) [] (.bin (.sub) (.loc 1) (.loc 5)) [5])]]))) [.ret (.bl false)] [], .ife (.tru (.cmp (.ne) (.bi (.repr) [.loc 4]) (.bi (.repr) [.tup [.loc 1, .frz (.lc (.nm 6) (.over (.ix (.loc 0) (.int 1))) [] (.loc 1) [6])]]))) [.ret (.bl false)] [], .expr (.app (.ix (.loc 3) (.int 1)) (.non)), .expr (.app (.ix (.loc 4) (.int 1)) (.non))], .ret (.cmp (.eq) (.bi (.repr) [.fls [.ix (.fcall "pushed_up" [.loc 0, .loc 1]) (.int 0), .ix (.fcall "pushed_back" [.loc 0, .loc 1]) (.int 1)]]) (.bi (.repr) [.fls [.loc 1, .frz (.bin (.mul) (.lst [.loc 1]) (.bi (.len) [.ix (.loc 0) (.int 1)]))]]))]⟩
def ir_law_pushed_right_1 : Fn := ⟨7, 2, [.forS (.nm 2) (.rng1 (.int 2)) [.par [3, 4] [.callk "pushed_up" [.loc 1, .loc 0] [1, 0], .callk "pushed_back" [.loc 1, .loc 0] [1, 0]], .ife (.tru (.cmp (.ne) (.bi (.repr) [.loc 3]) (.bi (.repr) [.tup [.loc 1, .frz (.lc (.nm 5) (.over (.fcall "_law_reaches" [.loc 0])) [] (.bin (.sub) (.loc 1) (.loc 5)) [5])]]))) [.ret (.bl false)] [], .ife (.tru (.cmp (.ne) (.bi (.repr) [.loc 4]) (.bi (.repr) [.tup [.loc 1, .frz (.lc (.nm 6) (.over (.ix (.loc 0) (.int 1))) [] (.loc 1) [6])]]))) [.ret (.bl false)] [], .expr (.app (.ix (.loc 3) (.int 1)) (.non)), .expr (.app (.ix (.loc 4) (.int 1)) (.non))], .ret (.cmp (.eq) (.bi (.repr) [.fls [.ix (.call "pushed_up" [.loc 0, .loc 1]) (.int 0), .ix (.call "pushed_back" [.loc 0, .loc 1]) (.int 1)]]) (.bi (.repr) [.fls [.loc 1, .frz (.bin (.mul) (.lst [.loc 1]) (.bi (.len) [.ix (.loc 0) (.int 1)]))]]))]⟩
def ir_law_open_right : Fn := ⟨9, 4, [.par [4, 5] [.bl true, .bi (.repr) [.fls [.loc 0, .loc 1, .loc 2]]], .forS (.tup [.nm 6, .nm 7]) (.zip (.fcall "_law_numbers" [.loc 0, .loc 1]) (.loc 2)) [.set 4 (.and (.loc 4) (.fcall "_law_is_in" [.ix (.loc 0) (.int 0), .loc 6, .loc 7, .loc 3]))], .set 8 (.fls [.fcall "is_open" [.loc 0, .loc 1, .loc 2, .loc 3], .fcallk "is_open" [.loc 3, .loc 2, .loc 1, .loc 0] [3, 2, 1, 0]]), .ret (.and (.cmp (.eq) (.bi (.repr) [.loc 8]) (.bi (.repr) [.fls [.loc 4, .loc 4]])) (.cmp (.eq) (.bi (.repr) [.fls [.loc 0, .loc 1, .loc 2]]) (.loc 5)))]⟩
def ir_law_around_right : Fn := ⟨12, 3, [.stop, .set 5 (.bin (.fdiv) (.bin (.sub) (.loc 4) (.int 1)) (.int 2)), .set 6 (.ix (.fls [.int 0, .loc 5, .fcall "_law_draw" [.loc 0, .bin (.add) (.loc 5) (.int 1)], .bi (.min) [.int 1, .loc 5]]) (.fcall "_law_draw" [.loc 0, .int 4])), .set 7 (.frz (.lc (.nm 11) (.over (.loc 3)) [] (.bin (.mod) (.bi (.toInt) [.bin (.sub) (.bin (.add) (.loc 11) (.fcall "_law_draw" [.loc 0, .bin (.add) (.bin (.mul) (.int 2) (.loc 6)) (.int 1)])) (.loc 6)]) (.loc 4)) [11])), .ife (.or (.not (.tru (.fcall "_law_open_right" [.loc 1, .loc 2, .loc 3, .loc 6]))) (.not (.tru (.fcall "_law_open_right" [.loc 1, .loc 2, .loc 7, .loc 6])))) [.ret (.bl false)] [], .forS (.nm 8) (.rng1 (.bi (.len) [.loc 3])) [.forS (.nm 9) (.over (.tup [.loc 6, .bin (.add) (.loc 6) (.int 1), .bin (.sub) (.int 0) (.loc 6), .bin (.sub) (.bin (.sub) (.int 0) (.loc 6)) (.int 1), .fcall "_law_draw" [.loc 0, .loc 4]])) [.set 10 (.bi (.list) [.loc 7]), .setix (.loc 10) (.loc 8) (.bin (.mod) (.bi (.toInt) [.bin (.add) (.ix (.loc 3) (.loc 8)) (.loc 9)]) (.loc 4)), .ife (.not (.tru (.fcall "_law_open_right" [.loc 1, .loc 2, .loc 10, .loc 6]))) [.ret (.bl false)] []]], .ret (.bl true)]⟩
def ir_law_around_right_1 : Fn := ⟨12, 3, [.tset (.tup [.nm 3, .nm 4]) (.tup [.fcall "_law_numbers" [.loc 1, .loc 2], .ix (.loc 1) (.int 0)]), .set 5 (.bin (.fdiv) (.bin (.sub) (.loc 4) (.int 1)) (.int 2)), .set 6 (.ix (.fls [.int 0, .loc 5, .fcall "_law_draw" [.loc 0, .bin (.add) (.loc 5) (.int 1)], .bi (.min) [.int 1, .loc 5]]) (.fcall "_law_draw" [.loc 0, .int 4])), .set 7 (.frz (.lc (.nm 11) (.over (.loc 3)) [] (.bin (.mod) (.bi (.toInt) [.bin (.sub) (.bin (.add) (.loc 11) (.fcall "_law_draw" [.loc 0, .bin (.add) (.bin (.mul) (.int 2) (.loc 6)) (.int 1)])) (.loc 6)]) (.loc 4)) [11])), .ife (.or (.not (.tru (.fcall "_law_open_right" [.loc 1, .loc 2, .loc 3, .loc 6]))) (.not (.tru (.fcall "_law_open_right" [.loc 1, .loc 2, .loc 7, .loc 6])))) [.ret (.bl false)] [], .forS (.nm 8) (.rng1 (.bi (.len) [.loc 3])) [.forS (.nm 9) (.over (.tup [.loc 6, .bin (.add) (.loc 6) (.int 1), .bin (.sub) (.int 0) (.loc 6), .bin (.sub) (.bin (.sub) (.int 0) (.loc 6)) (.int 1), .fcall "_law_draw" [.loc 0, .loc 4]])) [.set 10 (.bi (.list) [.loc 7]), .setix (.loc 10) (.loc 8) (.bin (.mod) (.bi (.toInt) [.bin (.add) (.ix (.loc 3) (.loc 8)) (.loc 9)]) (.loc 4)), .ife (.not (.tru (.fcall "_law_open_right" [.loc 1, .loc 2, .loc 10, .loc 6]))) [.ret (.bl false)] []]], .ret (.bl true)]⟩
def ir_law_swings : Fn := ⟨10, 4, [.par [4, 5, 6] [.lst [], .fcall "_law_draw" [.loc 0, .int 2], .fcall "_law_reaches" [.loc 1]], .forS (.nm 7) (.rng1 (.fcall "_law_draw" [.loc 0, .bin (.add) (.loc 2) (.int 1)])) [.set 8 (.ix (.loc 6) (.fcall "_law_draw" [.loc 0, .bi (.len) [.loc 6]])), .set 9 (.ix (.fls [.int 1, .ix (.loc 1) (.int 0), .loc 8, .bin (.add) (.loc 8) (.int 1), .bin (.sub) (.loc 8) (.int 1), .bin (.add) (.int 1) (.fcall "_law_draw" [.loc 0, .loc 3])]) (.fcall "_law_draw" [.loc 0, .int 6])), .set 5 (.ix (.fls [.bin (.sub) (.int 1) (.loc 5), .bin (.sub) (.int 1) (.loc 5), .fcall "_law_draw" [.loc 0, .int 2]]) (.fcall "_law_draw" [.loc 0, .int 3])), .expr (.app (.loc 4) (.bin (.mul) (.bi (.max) [.int 1, .loc 9]) (.ix (.fls [.neg (.int 1), .int 1]) (.loc 5))))], .ret (.loc 4)]⟩
def ir_law_turned : Fn := ⟨8, 3, [.par [3, 4] [.bin (.add) (.ix (.loc 1) (.int 0)) (.loc 2), .lst []], .set 5 (.loc 3), .forS (.tup [.nm 6, .nm 7]) (.zip (.ix (.loc 0) (.int 1)) (.ix (.loc 1) (.int 1))) [.set 5 (.ite (.tru (.cmp (.gt) (.loc 2) (.int 0))) (.bi (.max) [.loc 7, .bin (.sub) (.loc 5) (.loc 6)]) (.bi (.min) [.loc 7, .loc 5])), .expr (.app (.loc 4) (.loc 5))], .ret (.tup [.loc 3, .loc 4])]⟩
def ir_law_parted : Fn := ⟨5, 2, [.set 2 (.lst []), .forS (.nm 3) (.over (.loc 1)) [.ife (.and (.tru (.cmp (.gt) (.bi (.abs) [.loc 3]) (.int 1))) (.and (.tru (.cmp (.lt) (.bi (.len) [.loc 2]) (.int 59))) (.and (.tru (.cmp (.lt) (.bi (.len) [.loc 1]) (.int 31))) (.tru (.cmp (.eq) (.fcall "_law_draw" [.loc 0, .int 2]) (.int 0)))))) [.set 4 (.bin (.add) (.int 1) (.fcall "_law_draw" [.loc 0, .bin (.sub) (.bi (.abs) [.loc 3]) (.int 1)])), .set 4 (.ite (.tru (.cmp (.gt) (.loc 3) (.int 0))) (.loc 4) (.bin (.sub) (.int 0) (.loc 4))), .set 2 (.bin (.add) (.loc 2) (.fls [.loc 4, .bin (.sub) (.loc 3) (.loc 4)]))] [.expr (.app (.loc 2) (.loc 3))]], .ret (.loc 2)]⟩
def ir_check_turn : Fn := ⟨1, 1, [.ife (.not (.tru (.fcall "is_turn" [.loc 0]))) [.stop] []]⟩
def ir_moved_wheels : Fn := ⟨8, 3, [.expr (.fcall "check_lock" [.loc 0]), .expr (.fcall "check_state" [.loc 0, .loc 1]), .expr (.fcall "check_turn" [.loc 2]), .tset (.tup [.nm 3, .nm 4]) (.fcall "_turned_once" [.loc 0, .loc 1, .loc 2]), .ret (.frz (.lc (.tup [.nm 5, .tup [.nm 6, .nm 7]]) (.stop) [.tru (.cmp (.ne) (.loc 6) (.loc 7))] (.loc 5) [5, 6, 7]))]⟩
def ir_click_row : Fn := ⟨11, 3, [.expr (.fcall "check_lock" [.loc 0]), .expr (.fcall "check_state" [.loc 0, .loc 1]), .expr (.fcall "check_turn" [.loc 2]), .tset (.tup [.nm 3, .nm 4]) (.loc 1), .set 5 (.lst []), .set 6 (.int 0), .forS (.tup [.nm 7, .tup [.nm 8, .nm 9]]) (.stop) [.set 6 (.bin (.add) (.loc 6) (.loc 8)), .set 10 (.ite (.tru (.cmp (.gt) (.loc 2) (.int 0))) (.bin (.add) (.loc 9) (.loc 6)) (.loc 9)), .ife (.tru (.chain (.lt) (.le) (.int 0) (.bi (.abs) [.bin (.sub) (.loc 10) (.loc 3)]) (.bi (.abs) [.loc 2]))) [.expr (.app (.loc 5) (.tup [.loc 10, .loc 7]))] []], .ret (.loc 5)]⟩
def ir_law_unit : Fn := ⟨8, 3, [.par [3, 4] [.bin (.add) (.ix (.loc 1) (.int 0)) (.loc 2), .lst []], .set 5 (.loc 3), .forS (.tup [.nm 6, .nm 7]) (.zip (.ix (.loc 0) (.int 1)) (.ix (.loc 1) (.int 1))) [.ife (.and (.tru (.cmp (.eq) (.loc 2) (.int 1))) (.tru (.cmp (.gt) (.bin (.sub) (.loc 5) (.loc 7)) (.loc 6)))) [.set 7 (.bin (.add) (.loc 7) (.int 1))] [], .ife (.and (.tru (.cmp (.eq) (.loc 2) (.neg (.int 1)))) (.tru (.cmp (.gt) (.loc 7) (.loc 5)))) [.set 7 (.bin (.sub) (.loc 7) (.int 1))] [], .expr (.app (.loc 4) (.loc 7)), .set 5 (.loc 7)], .ret (.tup [.loc 3, .loc 4])]⟩
def ir_law_walked : Fn := ⟨13, 3, [.par [3, 4, 5] [.ite (.tru (.cmp (.gt) (.loc 2) (.int 0))) (.int 1) (.neg (.int 1)), .lst [], .frz (.bi (.list) [.ix (.loc 1) (.int 1)])], .forS (.nm 6) (.rng1 (.bi (.abs) [.loc 2])) [.set 7 (.fcall "_law_unit" [.loc 0, .loc 1, .loc 3]), .forS (.tup [.nm 8, .nm 9]) (.enum (.fcall "_law_reaches" [.loc 0])) [.set 10 (.ite (.tru (.cmp (.eq) (.loc 3) (.int 1))) (.bin (.add) (.bin (.sub) (.loc 9) (.ix (.loc 1) (.int 0))) (.ix (.ix (.loc 1) (.int 1)) (.loc 8))) (.bin (.sub) (.ix (.loc 1) (.int 0)) (.ix (.ix (.loc 1) (.int 1)) (.loc 8)))), .set 11 (.ite (.tru (.cmp (.eq) (.loc 3) (.int 1))) (.bin (.add) (.bin (.sub) (.loc 9) (.ix (.loc 7) (.int 0))) (.ix (.ix (.loc 7) (.int 1)) (.loc 8))) (.bin (.sub) (.ix (.loc 7) (.int 0)) (.ix (.ix (.loc 7) (.int 1)) (.loc 8)))), .ife (.and (.tru (.cmp (.gt) (.loc 10) (.int 0))) (.tru (.cmp (.eq) (.loc 11) (.int 0)))) [.expr (.app (.loc 4) (.tup [.ix (.loc 7) (.int 0), .bin (.add) (.loc 8) (.int 1)]))] []], .set 1 (.loc 7)], .ret (.fls [.frz (.lc (.tup [.nm 8, .nm 12]) (.enum (.loc 5)) [.tru (.cmp (.ne) (.ix (.ix (.loc 1) (.int 1)) (.loc 8)) (.loc 12))] (.bin (.add) (.loc 8) (.int 1)) [8, 12]), .loc 4])]⟩
def ir_law_due : Fn := ⟨10, 3, [.stop, .forS (.tup [.nm 6, .nm 7]) (.enum (.fcall "_law_reaches" [.loc 0])) [.set 8 (.ite (.tru (.cmp (.gt) (.loc 2) (.int 0))) (.bin (.sub) (.bin (.add) (.ix (.ix (.loc 1) (.int 1)) (.loc 6)) (.loc 7)) (.loc 3)) (.bin (.sub) (.loc 3) (.ix (.ix (.loc 1) (.int 1)) (.loc 6)))), .ife (.tru (.cmp (.lt) (.loc 8) (.bi (.abs) [.loc 2]))) [.expr (.app (.loc 4) (.bin (.add) (.loc 6) (.int 1)))] [], .ife (.tru (.chain (.lt) (.le) (.int 0) (.loc 8) (.bi (.abs) [.loc 2]))) [.expr (.app (.loc 5) (.tup [.loc 8, .bin (.add) (.loc 6) (.int 1)]))] []], .ret (.fls [.loc 4, .frz (.lc (.tup [.nm 8, .nm 9]) (.stop) [] (.tup [.ite (.tru (.cmp (.gt) (.loc 2) (.int 0))) (.bin (.add) (.loc 3) (.loc 8)) (.bin (.sub) (.loc 3) (.loc 8)), .loc 9]) [8, 9])])]⟩
def ir_law_some : Fn := ⟨11, 4, [.set 4 (.fls [.int 1, .neg (.int 1), .bin (.add) (.int 1) (.fcall "_law_draw" [.loc 0, .loc 3]), .bin (.sub) (.bin (.sub) (.int 0) (.int 1)) (.fcall "_law_draw" [.loc 0, .loc 3])]), .forS (.tup [.nm 5, .nm 6]) (.enum (.fcall "_law_reaches" [.loc 1])) [.set 7 (.bin (.sub) (.ix (.loc 2) (.int 0)) (.ix (.ix (.loc 2) (.int 1)) (.loc 5))), .par [8, 9] [.bin (.sub) (.loc 6) (.loc 7), .loc 7], .set 4 (.bin (.add) (.loc 4) (.fls [.bin (.sub) (.bin (.add) (.loc 8) (.fcall "_law_draw" [.loc 0, .int 3])) (.int 1), .bin (.sub) (.bin (.add) (.bin (.sub) (.int 0) (.loc 9)) (.fcall "_law_draw" [.loc 0, .int 3])) (.int 1)]))], .ret (.frz (.lc (.nm 10) (.over (.loc 4)) [.tru (.cmp (.ne) (.loc 10) (.int 0))] (.loc 10) [10]))]⟩
end IR

set_option Elab.async false
set_option linter.all false
set_option maxRecDepth 100000
set_option maxHeartbeats 4000000
namespace IR
open PySem PySem.Spec PyProof.Rows L2 Dl
local macro_rules | `(tactic| walk_at "run") => `(tactic| simp (disch := omega) only [↓s_nil, ↓s_cons, ↓s_tnx, ↓s_trt, ↓s_tbk, ↓s_tct, ↓s_set, ↓s_par', ↓s_tset', ↓s_setix', ↓s_ife, ↓s_for, ↓s_ret, ↓s_retN, ↓s_expr, ↓s_pass, ↓s_brk, ↓s_cont, ↓w_int, ↓w_bl, ↓w_non, ↓w_str, ↓w_loc, ↓w_bin, ↓w_cmp, ↓w_chain, ↓w_and, ↓w_or, ↓w_not, ↓w_neg, ↓w_ite, ↓w_tup', ↓w_lst', ↓w_ix, ↓w_slice, ↓w_o0, ↓w_o1, ↓w_call, ↓w_callk, ↓w_bi, ↓w_isi, ↓w_app, ↓w_lc, ↓w_nil, ↓w_cons, ↓t_and, ↓t_or, ↓t_not, ↓t_tru, ↓i_over', ↓i_rng1', ↓i_rng2', ↓i_rng3', ↓i_zip', ↓i_enum', ↓wp_ok, ↓wp_next, ↓wp_ret, ↓wp_brk, ↓wp_cont, ↓at_z, ↓at_s, ↓onB_bl, ↓onI_int, ↓onC_cell, ↓onT_bl, ↓onT_non, ↓onT_cell', ↓onT_tup, ↓br_t, ↓br_f, ↓if_t, ↓onO_some, ↓itO_cell, ↓itO_tup, ↓itO_frz, seq_cell, seq_frz, watch_cell, watch_frz, List.set_cons_zero, List.set_cons_succ, List.map_cons, List.map_nil, List.cons_append, List.nil_append, List.append_nil, List.replicate_succ, List.replicate_zero, asgT, asgTs, Option.some.injEq, exists_eq_left', exists_eq_left, l_add, l_sub, ↓l_mul, ↓l_fdiv, ↓l_mod, ↓l_pow, ↓l_lt, ↓l_le, ↓l_gt, ↓l_ge, ↓l_eqI, ↓l_neI, ↓l_eqS, ↓l_neS, ↓l_isN, ↓l_isnN, ↓l_cat, ↓l_rep, isi_non_int, isi_non_bool, isi_non_str, isi_non_list, isi_non_tuple, isi_bl_int, isi_bl_bool, isi_bl_str, isi_bl_list, isi_bl_tuple, isi_int_int, isi_int_bool, isi_int_str, isi_int_list, isi_int_tuple, isi_str_int, isi_str_bool, isi_str_str, isi_str_list, isi_str_tuple, isi_tup_int, isi_tup_bool, isi_tup_str, isi_tup_list, isi_tup_tuple, isi_cell_int, isi_cell_bool, isi_cell_str, isi_cell_list, isi_cell_tuple, isi_frz_int, isi_frz_bool, isi_frz_str, isi_frz_list, isi_frz_tuple, ↓l_len, ↓l_lenT, ↓l_lenF, ↓l_abs, ↓l_max, ↓l_min, ↓l_toInt, ↓l_toIntB, ↓l_list, ↓l_tupT, ↓l_tupC, ↓l_sum, ↓l_all, ↓l_reprC, ↓l_reprT, Bool.not_true, Bool.not_false, List.getD_cons_zero, List.getD_cons_succ, ↓l_ixc, ↓l_ixt, ↓l_ixf, atI_0, atI_1, atI_2, atI_3, atI_end, ↓l_app, ↓l_slice, ixN_0, ixN_1, ixN_2, ↓tvL, wipeE, List.length_cons, List.length_nil, Nat.reduceAdd, Nat.reduceSub, Nat.reduceLeDiff, List.isEmpty_nil, List.isEmpty_cons, Int.reduceToNat, Int.reducePow, Int.reduceAdd, Int.reduceSub, Int.reduceMul, Int.reduceNeg, Int.reduceLT, Int.reduceLE, Bool.true_and, Bool.and_true, asInts_map, asBools_map, decide_true, decide_false, ↓onT_int, ↓onT_lst, ↓w_frz, ↓w_fls, ↓w_fcall, ↓w_fcallk, ↓fz_same, ↓fz_nw, isP_int, isP_bl, isP_str, isP_non, isP_frz, isP_cell, Bool.false_and, Bool.and_false, isP_lst, isP_tup, isPL_nil, isPL_cons, isPL_ints, isPL_bls, ↓l_lenL, ↓l_listL, ↓l_listT, ↓l_listF, ↓l_tupL, ↓l_sumL, ↓l_allL, ↓l_reprL, ↓l_maxL, ↓l_minL, ↓l_reprI, cutD_map, ↓l_ixl, ↓l_catL, ↓l_catC, ↓l_sliceL, ↓l_sliceF, ↓itO_lst, seq_lst, watch_lst, isi_lst_int, isi_lst_bool, isi_lst_str, isi_lst_list, isi_lst_tuple, *])
local macro_rules | `(tactic| walk_at "runh") => `(tactic| simp (disch := omega) only [↓s_nil, ↓s_cons, ↓s_tnx, ↓s_trt, ↓s_tbk, ↓s_tct, ↓s_set, ↓s_par', ↓s_tset', ↓s_setix', ↓s_ife, ↓s_for, ↓s_ret, ↓s_retN, ↓s_expr, ↓s_pass, ↓s_brk, ↓s_cont, ↓w_int, ↓w_bl, ↓w_non, ↓w_str, ↓w_loc, ↓w_bin, ↓w_cmp, ↓w_chain, ↓w_and, ↓w_or, ↓w_not, ↓w_neg, ↓w_ite, ↓w_tup', ↓w_lst', ↓w_ix, ↓w_slice, ↓w_o0, ↓w_o1, ↓w_call, ↓w_callk, ↓w_bi, ↓w_isi, ↓w_app, ↓w_lc, ↓w_nil, ↓w_cons, ↓t_and, ↓t_or, ↓t_not, ↓t_tru, ↓i_over', ↓i_rng1', ↓i_rng2', ↓i_rng3', ↓i_zip', ↓i_enum', ↓wp_ok, ↓wp_next, ↓wp_ret, ↓wp_brk, ↓wp_cont, ↓at_z, ↓at_s, ↓onB_bl, ↓onI_int, ↓onC_cell, ↓onT_bl, ↓onT_non, ↓onT_cell', ↓onT_tup, ↓br_t, ↓br_f, ↓if_t, ↓onO_some, ↓itO_cell, ↓itO_tup, ↓itO_frz, seq_cell, seq_frz, watch_cell, watch_frz, List.set_cons_zero, List.set_cons_succ, List.map_cons, List.map_nil, List.cons_append, List.nil_append, List.append_nil, List.replicate_succ, List.replicate_zero, asgT, asgTs, Option.some.injEq, exists_eq_left', exists_eq_left, l_add, l_sub, ↓l_mul, ↓l_fdiv, ↓l_mod, ↓l_pow, ↓l_lt, ↓l_le, ↓l_gt, ↓l_ge, ↓l_eqI, ↓l_neI, ↓l_eqS, ↓l_neS, ↓l_isN, ↓l_isnN, ↓l_cat, ↓l_rep, isi_non_int, isi_non_bool, isi_non_str, isi_non_list, isi_non_tuple, isi_bl_int, isi_bl_bool, isi_bl_str, isi_bl_list, isi_bl_tuple, isi_int_int, isi_int_bool, isi_int_str, isi_int_list, isi_int_tuple, isi_str_int, isi_str_bool, isi_str_str, isi_str_list, isi_str_tuple, isi_tup_int, isi_tup_bool, isi_tup_str, isi_tup_list, isi_tup_tuple, isi_cell_int, isi_cell_bool, isi_cell_str, isi_cell_list, isi_cell_tuple, isi_frz_int, isi_frz_bool, isi_frz_str, isi_frz_list, isi_frz_tuple, ↓l_len, ↓l_lenT, ↓l_lenF, ↓l_abs, ↓l_max, ↓l_min, ↓l_toInt, ↓l_toIntB, ↓l_list, ↓l_tupT, ↓l_tupC, ↓l_sum, ↓l_all, ↓l_reprC, ↓l_reprT, Bool.not_true, Bool.not_false, List.getD_cons_zero, List.getD_cons_succ, ↓l_ixc, ↓l_ixt, ↓l_ixf, atI_0, atI_1, atI_2, atI_3, atI_end, ↓l_app, ↓l_slice, ixN_0, ixN_1, ixN_2, ↓tvL, wipeE, List.length_cons, List.length_nil, Nat.reduceAdd, Nat.reduceSub, Nat.reduceLeDiff, List.isEmpty_nil, List.isEmpty_cons, Int.reduceToNat, Int.reducePow, Int.reduceAdd, Int.reduceSub, Int.reduceMul, Int.reduceNeg, Int.reduceLT, Int.reduceLE, Bool.true_and, Bool.and_true, asInts_map, asBools_map, decide_true, decide_false, ↓onT_int, ↓onT_lst, ↓w_frz, ↓w_fls, ↓w_fcall, ↓w_fcallk, ↓fz_same, ↓fz_nw, isP_int, isP_bl, isP_str, isP_non, isP_frz, isP_cell, Bool.false_and, Bool.and_false, isP_lst, isP_tup, isPL_nil, isPL_cons, isPL_ints, isPL_bls, ↓l_lenL, ↓l_listL, ↓l_listT, ↓l_listF, ↓l_tupL, ↓l_sumL, ↓l_allL, ↓l_reprL, ↓l_maxL, ↓l_minL, ↓l_reprI, cutD_map, ↓l_ixl, ↓l_catL, ↓l_catC, ↓l_sliceL, ↓l_sliceF, ↓itO_lst, seq_lst, watch_lst, isi_lst_int, isi_lst_bool, isi_lst_str, isi_lst_list, isi_lst_tuple, *] at this)
local macro_rules | `(tactic| walk_at "line") => `(tactic| (first | (with_reducible apply decide_eq_true; exact Nat.le_trans (by first | (simp only [List.length_cons, List.length_nil, List.length_append, List.length_map, List.length_range]; omega) | omega) (by decide : 100000 ≤ sizeLine)) | (with_reducible apply decide_eq_true; exact Nat.lt_of_le_of_lt (by first | (simp only [List.length_cons, List.length_nil, List.length_append, List.length_map, List.length_range]; omega) | omega) (by decide : 100000 < sizeLine)) | (with_reducible exact line_le (by omega)) | (with_reducible exact line_lt (by omega))))
local macro_rules | `(tactic| walk_at "num") => `(tactic| (first | (simp only [big, wid, small, Bool.and_eq_true, decide_eq_true_eq]; omega) | (simp only [big, wid, small, Bool.and_eq_true, decide_eq_true_eq]; refine ⟨?_, ?_⟩ <;> omega)))
local macro_rules | `(tactic| walk_at "go") => `(tactic| first | walk_at "run" | (with_reducible refine nw_mk fun p h2 e1 e2 e3 e4 => ?_) | ((with_reducible refine up_mk ?up fun h2 e1 e2 e3 => ?_); (case up => omega)) | ((with_reducible refine if_mk ?gu ?_); (case gu => first | walk_at "num" | walk_at "line")))
local macro_rules | `(tactic| walk_at "goc") => `(tactic| first | walk_at "run" | ((with_reducible apply nw_cs); (case hc => assumption); intro p h2 e1 e2 e3 e4 e5 e6 e7) | ((with_reducible apply up_cs); (case hc => assumption); (case up => omega); (case ge => omega); intro h2 e1 e2 e3 e4) | ((with_reducible apply dr_cs); (case hT => assumption); (case hc => assumption); (case hm => omega); (case hm2 => omega); (case hk => omega); intro r h2 e1 e2 e3 e4 e5) | ((with_reducible refine if_mk ?gu ?_); (case gu => first | walk_at "num" | walk_at "line")))
section
variable {T : Str → Option Fn} {k : Nat}
theorem pu_is_integer {v : Vl} (hT : T "is_integer" = some ir_is_integer) : Pu T (k + 1) "is_integer" [v] (.bl (vInt v)) := pu_mk hT rfl (by decide) fun h => by
  simp only [ir_is_integer]
  cases v <;> (walk_at "run"; exact pu_end rfl)
theorem pu_is_at_least {v : Vl} {m : Int} (hT : T "is_integer" = some ir_is_integer) (hT2 : T "is_at_least" = some ir_is_at_least) : Pu T (k + 2) "is_at_least" [v, .int m] (.bl (vLeast v m)) := pu_mk hT2 rfl (by decide) fun h => by
  simp only [ir_is_at_least]
  walk_at "run"
  refine pu_use (pu_is_integer hT) ?_
  cases v <;> (simp only [vInt]; walk_at "run"; exact pu_end rfl)
theorem pu_is_turn {v : Vl} (hT : T "is_integer" = some ir_is_integer) (hT2 : T "is_turn" = some ir_is_turn) : Pu T (k + 2) "is_turn" [v] (.bl (vTurn v)) := pu_mk hT2 rfl (by decide) fun h => by
  simp only [ir_is_turn]
  walk_at "run"
  refine pu_use (pu_is_integer hT) ?_
  cases v <;> (simp only [vInt]; walk_at "run"; exact pu_end rfl)
def Turns (ts : List Int) : Prop := ts.length ≤ 60 ∧ ∀ t ∈ ts, t ≠ 0
theorem pu_check_turns {ts : List Int} (hI : T "is_integer" = some ir_is_integer) (hT : T "is_turn" = some ir_is_turn) (hT2 : T "check_turns" = some ir_check_turns) (ht : Turns ts) : Pu T (k + 3) "check_turns" [vL ts] .non := pu_mk hT2 rfl (by decide) fun h => by
  simp only [ir_check_turns]
  walk_at "run"
  refine br_no (by rw [List.length_map]; have := ht.1; exact decide_eq_false (by omega)) ?_
  walk_at "run"
  rw [enumV_map]
  refine for_map _ (fun us ρ h' => h' = h ∧ ∃ a b : Option Vl, ρ = [some (vL ts), a, b]) ⟨rfl, none, none, rfl⟩ ?_ ?_
  · rintro us ⟨u, i⟩ ws ρ h' e ⟨rfl, a, b, rfl⟩
    have hm : (u, i) ∈ ts.zipIdx := by rw [e]; simp
    have hz := ht.2 u (List.mem_of_getElem? (List.mk_mem_zipIdx_iff_getElem?.mp hm))
    refine ⟨_, rfl, ?_⟩
    walk_at "run"
    refine pu_use (pu_is_turn (k := k) hI hT) ?_
    have : vTurn (.int u) = true := by simp [vTurn, hz]
    rw [this]
    walk_at "run"
    exact ⟨trivial, _, _, rfl⟩
  · rintro ρ h' ⟨rfl, _⟩; exact pu_end rfl
theorem pu_check_at_least {i m : Int} (hI : T "is_integer" = some ir_is_integer) (hT : T "is_at_least" = some ir_is_at_least) (hT2 : T "check_at_least" = some ir_check_at_least) (hi : m ≤ i) : Pu T (k + 3) "check_at_least" [.int i, .int m] .non := pu_mk hT2 rfl (by decide) fun h => by
  simp only [ir_check_at_least]
  walk_at "run"
  refine pu_use (pu_is_at_least (k := k) hI hT) ?_
  simp only [vLeast, decide_eq_true hi]
  walk_at "run"
  exact pu_end rfl
/-! stops, places -/
def stopsL (d : Int) : List Int → List Int
  | [] => []
  | t :: ts => (d + t) :: stopsL (d + t) ts
theorem stopsL_snoc : ∀ (ts : List Int) (d t : Int), stopsL d (ts ++ [t]) = stopsL d ts ++ [d + ts.sum + t]
  | [], d, t => by simp [stopsL]
  | a :: ts, d, t => by simp [stopsL, stopsL_snoc ts, Int.add_assoc]
theorem stopsL_len : ∀ (ts : List Int) (d : Int), (stopsL d ts).length = ts.length
  | [], _ => rfl
  | a :: ts, d => by simp [stopsL, stopsL_len ts]
def placeL (r : Int) (p : Int) (ss : List Int) : Int := ss.foldl (fun p s => min (max p (s - r)) s) p
theorem pu_stops_of {d : Int} {ts : List Int} (hT : T "stops_of" = some ir_stops_of) (hl : ts.length ≤ 60) : Pu T (k + 1) "stops_of" [.int d, vL ts] (vL (stopsL d ts)) := pu_mk hT rfl (by decide) fun h => by
  simp only [ir_stops_of]
  repeat walk_at "go"
  rename_i p h2 e1 e2 e3 e4
  subst e1
  refine for_map _ (fun us ρ h' => ∃ a, ρ = [some (.int d), some (vL ts), some (.cell h.length), some (.int (d + us.sum)), a] ∧ us.length ≤ 60 ∧ Ext h h' ∧ h.length < h'.length ∧ h'[h.length]? = some (vI (stopsL d us))) ⟨none, by simp, by simp, .new rfl e2 e4, by omega, e3⟩ ?_ ?_
  · rintro us u ws ρ h' e ⟨a, rfl, l, x, lp, g⟩
    have len := congrArg List.length e
    simp only [List.length_append, List.length_cons] at len
    have gl : (vI (stopsL d us)).length = us.length := by rw [List.length_map, stopsL_len]
    refine ⟨_, rfl, ?_⟩
    repeat walk_at "go"
    rename_i h3 f1 f2 f3
    exact ⟨some (.int u), by simp [Int.add_assoc], by simp; omega, x.up (by omega) f1 f3, by first | trivial | omega, by simp [stopsL_snoc, vI]⟩
  · rintro ρ h' ⟨a, rfl, l, x, lp, g⟩
    walk_at "run"
    exact pu_endC x (Nat.le_refl _) g isPL_ints
theorem pu_place_at {p r : Int} {ss : List Int} (hT : T "place_at" = some ir_place_at) : Pu T (k + 1) "place_at" [.int p, .int r, vL ss] (.int (placeL r p ss)) := pu_mk hT rfl (by decide) fun h => by
  simp only [ir_place_at]
  walk_at "run"
  refine for_map _ (fun us ρ h' => h' = h ∧ ∃ a, ρ = [some (.int (placeL r p us)), some (.int r), some (vL ss), a]) ⟨rfl, none, rfl⟩ ?_ ?_
  · rintro us u ws ρ h' e ⟨rfl, a, rfl⟩
    refine ⟨_, rfl, ?_⟩
    walk_at "run"
    exact ⟨trivial, some (.int u), by simp [placeL]⟩
  · rintro ρ h' ⟨rfl, a, rfl⟩
    walk_at "run"
    exact pu_end rfl
end
end IR

set_option Elab.async false
set_option linter.all false
set_option maxRecDepth 100000
set_option maxHeartbeats 4000000
namespace IR
open PySem PySem.Spec PyProof.Rows L2 Dl
local macro_rules | `(tactic| walk_at "run") => `(tactic| simp (disch := omega) only [↓s_nil, ↓s_cons, ↓s_tnx, ↓s_trt, ↓s_tbk, ↓s_tct, ↓s_set, ↓s_par', ↓s_tset', ↓s_setix', ↓s_ife, ↓s_for, ↓s_ret, ↓s_retN, ↓s_expr, ↓s_pass, ↓s_brk, ↓s_cont, ↓w_int, ↓w_bl, ↓w_non, ↓w_str, ↓w_loc, ↓w_bin, ↓w_cmp, ↓w_chain, ↓w_and, ↓w_or, ↓w_not, ↓w_neg, ↓w_ite, ↓w_tup', ↓w_lst', ↓w_ix, ↓w_slice, ↓w_o0, ↓w_o1, ↓w_call, ↓w_callk, ↓w_bi, ↓w_isi, ↓w_app, ↓w_lc, ↓w_nil, ↓w_cons, ↓t_and, ↓t_or, ↓t_not, ↓t_tru, ↓i_over', ↓i_rng1', ↓i_rng2', ↓i_rng3', ↓i_zip', ↓i_enum', ↓wp_ok, ↓wp_next, ↓wp_ret, ↓wp_brk, ↓wp_cont, ↓at_z, ↓at_s, ↓onB_bl, ↓onI_int, ↓onC_cell, ↓onT_bl, ↓onT_non, ↓onT_cell', ↓onT_tup, ↓br_t, ↓br_f, ↓if_t, ↓onO_some, ↓itO_cell, ↓itO_tup, ↓itO_frz, seq_cell, seq_frz, watch_cell, watch_frz, List.set_cons_zero, List.set_cons_succ, List.map_cons, List.map_nil, List.cons_append, List.nil_append, List.append_nil, List.replicate_succ, List.replicate_zero, asgT, asgTs, Option.some.injEq, exists_eq_left', exists_eq_left, l_add, l_sub, ↓l_mul, ↓l_fdiv, ↓l_mod, ↓l_pow, ↓l_lt, ↓l_le, ↓l_gt, ↓l_ge, ↓l_eqI, ↓l_neI, ↓l_eqS, ↓l_neS, ↓l_isN, ↓l_isnN, ↓l_cat, ↓l_rep, isi_non_int, isi_non_bool, isi_non_str, isi_non_list, isi_non_tuple, isi_bl_int, isi_bl_bool, isi_bl_str, isi_bl_list, isi_bl_tuple, isi_int_int, isi_int_bool, isi_int_str, isi_int_list, isi_int_tuple, isi_str_int, isi_str_bool, isi_str_str, isi_str_list, isi_str_tuple, isi_tup_int, isi_tup_bool, isi_tup_str, isi_tup_list, isi_tup_tuple, isi_cell_int, isi_cell_bool, isi_cell_str, isi_cell_list, isi_cell_tuple, isi_frz_int, isi_frz_bool, isi_frz_str, isi_frz_list, isi_frz_tuple, ↓l_len, ↓l_lenT, ↓l_lenF, ↓l_abs, ↓l_max, ↓l_min, ↓l_toInt, ↓l_toIntB, ↓l_list, ↓l_tupT, ↓l_tupC, ↓l_sum, ↓l_all, ↓l_reprC, ↓l_reprT, Bool.not_true, Bool.not_false, List.getD_cons_zero, List.getD_cons_succ, ↓l_ixc, ↓l_ixt, ↓l_ixf, atI_0, atI_1, atI_2, atI_3, atI_end, ↓l_app, ↓l_slice, ixN_0, ixN_1, ixN_2, ↓tvL, wipeE, List.length_cons, List.length_nil, Nat.reduceAdd, Nat.reduceSub, Nat.reduceLeDiff, List.isEmpty_nil, List.isEmpty_cons, Int.reduceToNat, Int.reducePow, Int.reduceAdd, Int.reduceSub, Int.reduceMul, Int.reduceNeg, Int.reduceLT, Int.reduceLE, Bool.true_and, Bool.and_true, asInts_map, asBools_map, decide_true, decide_false, ↓onT_int, ↓onT_lst, ↓w_frz, ↓w_fls, ↓w_fcall, ↓w_fcallk, ↓fz_same, ↓fz_nw, isP_int, isP_bl, isP_str, isP_non, isP_frz, isP_cell, Bool.false_and, Bool.and_false, isP_lst, isP_tup, isPL_nil, isPL_cons, isPL_ints, isPL_bls, ↓l_lenL, ↓l_listL, ↓l_listT, ↓l_listF, ↓l_tupL, ↓l_sumL, ↓l_allL, ↓l_reprL, ↓l_maxL, ↓l_minL, ↓l_reprI, cutD_map, ↓l_ixl, ↓l_catL, ↓l_catC, ↓l_sliceL, ↓l_sliceF, ↓itO_lst, seq_lst, watch_lst, isi_lst_int, isi_lst_bool, isi_lst_str, isi_lst_list, isi_lst_tuple, *])
local macro_rules | `(tactic| walk_at "runh") => `(tactic| simp (disch := omega) only [↓s_nil, ↓s_cons, ↓s_tnx, ↓s_trt, ↓s_tbk, ↓s_tct, ↓s_set, ↓s_par', ↓s_tset', ↓s_setix', ↓s_ife, ↓s_for, ↓s_ret, ↓s_retN, ↓s_expr, ↓s_pass, ↓s_brk, ↓s_cont, ↓w_int, ↓w_bl, ↓w_non, ↓w_str, ↓w_loc, ↓w_bin, ↓w_cmp, ↓w_chain, ↓w_and, ↓w_or, ↓w_not, ↓w_neg, ↓w_ite, ↓w_tup', ↓w_lst', ↓w_ix, ↓w_slice, ↓w_o0, ↓w_o1, ↓w_call, ↓w_callk, ↓w_bi, ↓w_isi, ↓w_app, ↓w_lc, ↓w_nil, ↓w_cons, ↓t_and, ↓t_or, ↓t_not, ↓t_tru, ↓i_over', ↓i_rng1', ↓i_rng2', ↓i_rng3', ↓i_zip', ↓i_enum', ↓wp_ok, ↓wp_next, ↓wp_ret, ↓wp_brk, ↓wp_cont, ↓at_z, ↓at_s, ↓onB_bl, ↓onI_int, ↓onC_cell, ↓onT_bl, ↓onT_non, ↓onT_cell', ↓onT_tup, ↓br_t, ↓br_f, ↓if_t, ↓onO_some, ↓itO_cell, ↓itO_tup, ↓itO_frz, seq_cell, seq_frz, watch_cell, watch_frz, List.set_cons_zero, List.set_cons_succ, List.map_cons, List.map_nil, List.cons_append, List.nil_append, List.append_nil, List.replicate_succ, List.replicate_zero, asgT, asgTs, Option.some.injEq, exists_eq_left', exists_eq_left, l_add, l_sub, ↓l_mul, ↓l_fdiv, ↓l_mod, ↓l_pow, ↓l_lt, ↓l_le, ↓l_gt, ↓l_ge, ↓l_eqI, ↓l_neI, ↓l_eqS, ↓l_neS, ↓l_isN, ↓l_isnN, ↓l_cat, ↓l_rep, isi_non_int, isi_non_bool, isi_non_str, isi_non_list, isi_non_tuple, isi_bl_int, isi_bl_bool, isi_bl_str, isi_bl_list, isi_bl_tuple, isi_int_int, isi_int_bool, isi_int_str, isi_int_list, isi_int_tuple, isi_str_int, isi_str_bool, isi_str_str, isi_str_list, isi_str_tuple, isi_tup_int, isi_tup_bool, isi_tup_str, isi_tup_list, isi_tup_tuple, isi_cell_int, isi_cell_bool, isi_cell_str, isi_cell_list, isi_cell_tuple, isi_frz_int, isi_frz_bool, isi_frz_str, isi_frz_list, isi_frz_tuple, ↓l_len, ↓l_lenT, ↓l_lenF, ↓l_abs, ↓l_max, ↓l_min, ↓l_toInt, ↓l_toIntB, ↓l_list, ↓l_tupT, ↓l_tupC, ↓l_sum, ↓l_all, ↓l_reprC, ↓l_reprT, Bool.not_true, Bool.not_false, List.getD_cons_zero, List.getD_cons_succ, ↓l_ixc, ↓l_ixt, ↓l_ixf, atI_0, atI_1, atI_2, atI_3, atI_end, ↓l_app, ↓l_slice, ixN_0, ixN_1, ixN_2, ↓tvL, wipeE, List.length_cons, List.length_nil, Nat.reduceAdd, Nat.reduceSub, Nat.reduceLeDiff, List.isEmpty_nil, List.isEmpty_cons, Int.reduceToNat, Int.reducePow, Int.reduceAdd, Int.reduceSub, Int.reduceMul, Int.reduceNeg, Int.reduceLT, Int.reduceLE, Bool.true_and, Bool.and_true, asInts_map, asBools_map, decide_true, decide_false, ↓onT_int, ↓onT_lst, ↓w_frz, ↓w_fls, ↓w_fcall, ↓w_fcallk, ↓fz_same, ↓fz_nw, isP_int, isP_bl, isP_str, isP_non, isP_frz, isP_cell, Bool.false_and, Bool.and_false, isP_lst, isP_tup, isPL_nil, isPL_cons, isPL_ints, isPL_bls, ↓l_lenL, ↓l_listL, ↓l_listT, ↓l_listF, ↓l_tupL, ↓l_sumL, ↓l_allL, ↓l_reprL, ↓l_maxL, ↓l_minL, ↓l_reprI, cutD_map, ↓l_ixl, ↓l_catL, ↓l_catC, ↓l_sliceL, ↓l_sliceF, ↓itO_lst, seq_lst, watch_lst, isi_lst_int, isi_lst_bool, isi_lst_str, isi_lst_list, isi_lst_tuple, *] at this)
local macro_rules | `(tactic| walk_at "line") => `(tactic| (first | (with_reducible apply decide_eq_true; exact Nat.le_trans (by first | (simp only [List.length_cons, List.length_nil, List.length_append, List.length_map, List.length_range]; omega) | omega) (by decide : 100000 ≤ sizeLine)) | (with_reducible apply decide_eq_true; exact Nat.lt_of_le_of_lt (by first | (simp only [List.length_cons, List.length_nil, List.length_append, List.length_map, List.length_range]; omega) | omega) (by decide : 100000 < sizeLine)) | (with_reducible exact line_le (by omega)) | (with_reducible exact line_lt (by omega))))
local macro_rules | `(tactic| walk_at "num") => `(tactic| (first | (simp only [big, wid, small, Bool.and_eq_true, decide_eq_true_eq]; omega) | (simp only [big, wid, small, Bool.and_eq_true, decide_eq_true_eq]; refine ⟨?_, ?_⟩ <;> omega)))
local macro_rules | `(tactic| walk_at "go") => `(tactic| first | walk_at "run" | (with_reducible refine nw_mk fun p h2 e1 e2 e3 e4 => ?_) | ((with_reducible refine up_mk ?up fun h2 e1 e2 e3 => ?_); (case up => omega)) | ((with_reducible refine if_mk ?gu ?_); (case gu => first | walk_at "num" | walk_at "line")))
local macro_rules | `(tactic| walk_at "goc") => `(tactic| first | walk_at "run" | ((with_reducible apply nw_cs); (case hc => assumption); intro p h2 e1 e2 e3 e4 e5 e6 e7) | ((with_reducible apply up_cs); (case hc => assumption); (case up => omega); (case ge => omega); intro h2 e1 e2 e3 e4) | ((with_reducible apply dr_cs); (case hT => assumption); (case hc => assumption); (case hm => omega); (case hm2 => omega); (case hk => omega); intro r h2 e1 e2 e3 e4 e5) | ((with_reducible refine if_mk ?gu ?_); (case gu => first | walk_at "num" | walk_at "line")))
section
variable {T : Str → Option Fn} {k : Nat} {h : Mm} {Q : Vl → Mm → Prop}
theorem draw_stock (hT : T "_law_draw" = some ir_law_draw) : DrawSp T "_law_draw" := ⟨fun {k h Q c j m} hc hm hm2 hk q => by
  have hl := hc.lt
  obtain ⟨a, b, n, hc, ha, hb, hb2, hn, hn2⟩ := hc
  refine call_wp hT rfl (by decide) ?_
  simp only [ir_law_draw]
  walk_at "run"
  refine br_mk (fun hp => ?_) (fun hp => ?_)
  all_goals try walk_at "run"
  · refine if_mk (by simp only [big, Bool.and_eq_true, decide_eq_true_eq]; omega) ?_
    walk_at "run"
    refine up_mk hl fun h2 e1 e2 e3 => ?_
    exact q _ h2 (Int.emod_nonneg _ (by omega)) (Int.emod_lt_of_pos _ hm) e1 ⟨_, b, n, e2, Int.ediv_nonneg ha (by omega), hb, hb2, hn, by omega⟩ e3
  · refine up_mk hl fun h2 e1 e2 e3 => ?_
    have fin : ∀ x : Int, Q (.int (x % m)) h2 := fun x => q _ h2 (Int.emod_nonneg _ (by omega)) (Int.emod_lt_of_pos _ hm) e1 ⟨a, b, n + 1, e2, ha, hb, hb2, by omega, by omega⟩ e3
    clear q
    repeat walk_at "go"
    all_goals exact fin _⟩
theorem cut63 {ns : List Int} : (Dl.cutD ns none (some 63)).length ≤ 63 := by
  unfold Dl.cutD HT.sIx
  simp
  omega
theorem pow_le63 {d : Int} {n : Nat} (h : d < 10 ^ (60 * n)) (hn : n ≤ 63) : d < 10 ^ 3780 := by
  have : (10 : Int) ^ (60 * n) ≤ 10 ^ 3780 := by
    have := Nat.pow_le_pow_right (show 0 < 10 by decide) (show 60 * n ≤ 3780 by omega)
    exact_mod_cast this
  exact Int.lt_of_lt_of_le h this
theorem pow_next {d r : Int} {n : Nat} (h0 : 0 ≤ d) (h : d < 10 ^ (60 * n)) (r0 : 0 ≤ r) (r1 : r < 10 ^ 60) : d * 10 ^ 60 + r < 10 ^ (60 * (n + 1)) := by
  rw [Nat.mul_add, Int.pow_add]
  have : (d + 1) * 10 ^ 60 ≤ 10 ^ (60 * n) * 10 ^ 60 := Int.mul_le_mul_of_nonneg_right (by omega) (by decide)
  rw [Int.add_mul] at this
  omega
theorem sp_stock {ns : List Int} (hT : T "_law_stock" = some ir_law_stock) (q : ∀ (c : Nat) (h' : Mm), Ext h h' → h.length ≤ c → CoilAt h' c 0 → Q (.cell c) h') : (call T (k + 1) "_law_stock" [.frz ns] h).wp Q := by
  refine call_wp hT rfl (by decide) ?_
  simp only [ir_law_stock]
  repeat walk_at "go"
  refine for_map _ (fun us ρ h' => h' = h ∧ ∃ (d m : Int) (a b : Option Vl), ρ = [some (.frz ns), some (.int d), some (.int m), a, b] ∧ 0 ≤ d ∧ d < 10 ^ (60 * us.length) ∧ us.length ≤ 63 ∧ 0 ≤ m ∧ m < 170141183460469231731687303715884105727) ⟨rfl, 0, 27644437, none, none, rfl, by decide, by simp, by simp, by decide, by decide⟩ ?_ ?_
  · rintro us u ws ρ h' e ⟨rfl, d, m, a, b, rfl, d0, d1, l, m0, m1⟩
    have len := congrArg List.length e
    have c63 := cut63 (ns := ns)
    simp only [List.length_append, List.length_cons] at len
    have d2 := pow_le63 d1 l
    have mm : ∀ x : Int, 0 ≤ x % 170141183460469231731687303715884105727 ∧ x % 170141183460469231731687303715884105727 < 170141183460469231731687303715884105727 := fun x => ⟨Int.emod_nonneg _ (by decide), Int.emod_lt_of_pos _ (by decide)⟩
    refine ⟨_, rfl, ?_⟩
    repeat walk_at "go"
    refine br_mk (fun c1 => ?_) (fun c1 => ?_)
    · repeat walk_at "go"
      have r0 := Int.emod_nonneg (u.natAbs : Int) (show (10 : Int) ^ 60 ≠ 0 by decide)
      have r1 := Int.emod_lt_of_pos (u.natAbs : Int) (show (0 : Int) < 10 ^ 60 by decide)
      have nx := pow_next d0 d1 r0 r1
      exact ⟨trivial, _, _, some (.int u), some (.int _), rfl, by omega, by rw [List.length_append, List.length_singleton]; exact nx, by simp; omega, (mm _).1, (mm _).2⟩
    · repeat walk_at "go"
      have nx : d < 10 ^ (60 * (us.length + 1)) := Int.lt_of_lt_of_le d1 (by
        have := Nat.pow_le_pow_right (show 0 < 10 by decide) (show 60 * us.length ≤ 60 * (us.length + 1) by omega)
        exact_mod_cast this)
      exact ⟨trivial, _, _, some (.int u), some (.int _), rfl, d0, by rw [List.length_append, List.length_singleton]; exact nx, by simp; omega, (mm _).1, (mm _).2⟩
  · rintro ρ h' ⟨rfl, d, m, a, b, rfl, d0, d1, l, m0, m1⟩
    clear d1
    repeat walk_at "go"
    rename_i p h2 e1 e2 e3 e4
    exact q p h2 (.new e1 e2 e4) (by omega) ⟨d, m, 0, e3, d0, m0, by omega, by omega, by omega⟩
/-- turns of a stock -/
def TurnsB (B : Int) (ts : List Int) : Prop := ∀ t ∈ ts, t ≠ 0 ∧ -B ≤ t ∧ t ≤ B
theorem TurnsB.mono {A B : Int} {ts : List Int} (h : TurnsB A ts) (k : A ≤ B) : TurnsB B ts := fun t ht => by have := h t ht; omega
theorem dr_turns {c : Nat} {n wide : Int} (hD : DrawSp T "_law_draw") (hT : T "_law_turns" = some ir_law_turns) (n0 : 0 ≤ n) (n1 : n ≤ 60) (w0 : 1 ≤ wide) (w1 : wide ≤ 10 ^ 30) :
    Dr T (k + 2) "_law_turns" [.cell c, .int n, .int wide] c 300 fun y => ∃ ts, y = vL ts ∧ (ts.length : Int) ≤ n ∧ TurnsB (wide + 9) ts := dr_mk hT rfl (by decide) fun h j cs hj => by
  simp only [ir_law_turns]
  repeat walk_at "goc"
  rename_i p h2 e1 e2 e3 e4 e5 e6 e7
  refine for_rng (fun i ρ h' => ∃ (ts : List Int) (a b : Option Vl), ρ = [some (.cell c), some (.int n), some (.int wide), some (.cell p), a, b] ∧ ts.length = i ∧ TurnsB (wide + 9) ts ∧ h'[p]? = some (vI ts) ∧ p < h'.length ∧ CS h h' c (j + 5 * i)) ⟨[], none, none, rfl, rfl, (by intro t ht; cases ht), e3, by omega, e6⟩ ?_ ?_
  · rintro i ρ h' hi ⟨ts, a, b, rfl, l, tb, g, lp, cs'⟩
    have tl : (vI ts).length = i := by rw [List.length_map]; exact l
    refine ⟨_, rfl, ?_⟩
    repeat walk_at "goc"
    rename_i s1 _ _ _ _ _ _ s2 _ _ _ _ _ _ s3 _ _ _ _ _ _ s4 _ _ _ _ _ _
    refine ix_menu [1, 1 + s1, 1 + s2, 1 + s3] (fun v => 1 ≤ v ∧ v ≤ wide + 9) (by omega) (by simp; omega) (by simp; omega) fun many hv => ?_
    obtain ⟨v1, v2⟩ := hv
    repeat walk_at "goc"
    refine ix_menu [1, -1] (fun v => v = -1 ∨ v = 1) (by omega) (by simp; omega) (by simp) fun sg hv => ?_
    have hmul : many * sg ≠ 0 ∧ -(wide + 9) ≤ many * sg ∧ many * sg ≤ wide + 9 := by rcases hv with rfl | rfl <;> omega
    have hbig : (wid many && wid sg) = true := by simp only [wid, Bool.and_eq_true, decide_eq_true_eq]; omega
    repeat walk_at "goc"
    rename_i hz z1 z2 z3 z4
    refine ⟨ts ++ [many * sg], some (.int i), some (.int many), rfl, by simp [l], fun t ht => ?_, by simp [vI], by first | trivial | omega, z4.le (by omega)⟩
    rcases List.mem_append.mp ht with ht | ht
    · exact tb t ht
    · rw [List.mem_singleton.mp ht]; exact hmul
  · rintro ρ h' ⟨ts, a, b, rfl, l, tb, g, lp, cs'⟩
    walk_at "run"
    exact dr_endC e7 g isPL_ints ⟨ts, rfl, by omega, tb⟩ cs' (by omega)
end
end IR

set_option Elab.async false
set_option linter.all false
set_option maxRecDepth 100000
set_option maxHeartbeats 4000000
namespace IR
open PySem PySem.Spec PyProof.Rows L2 Dl
theorem pu_endX {h h' : Mm} {x : Vl} (e : Ext h h') (hp : isP x = true) : PuE h h' x x := ⟨e, fz_p hp 16⟩
/-! ## data of values -/
theorem sn_int {n : Nat} {h : Mm} {i : Int} : snap n h (.int i) = some (.int i) := by cases n <;> rfl
theorem sn_bl {n : Nat} {h : Mm} {i : Bool} : snap n h (.bl i) = some (.bool i) := by cases n <;> rfl
theorem sn_non {n : Nat} {h : Mm} : snap n h .non = some .none := by cases n <;> rfl
theorem snL_ints {n : Nat} {h : Mm} : ∀ {xs : List Int}, snapL (snap n h) (vI xs) = some (xs.map PyData.int)
  | [] => rfl
  | x :: xs => by
    have := snL_ints (n := n) (h := h) (xs := xs)
    simp only [vI] at this
    simp only [vI, List.map_cons, snapL, sn_int, this]
theorem snL_nil {n : Nat} {h : Mm} : snapL (snap n h) [] = some [] := rfl
theorem snL_cons {n : Nat} {h : Mm} {x : Vl} {xs : List Vl} {d : PyData} {ds : List PyData} (a : snap n h x = some d) (b : snapL (snap n h) xs = some ds) : snapL (snap n h) (x :: xs) = some (d :: ds) := by
  simp only [snapL, a, b]
theorem snL_map {α : Type} {n : Nat} {h : Mm} {f : α → Vl} {g : α → PyData} (hf : ∀ a, snap n h (f a) = some (g a)) : ∀ (xs : List α), snapL (snap n h) (xs.map f) = some (xs.map g)
  | [] => rfl
  | x :: xs => snL_cons (hf x) (snL_map hf xs)
theorem sn_cell {n : Nat} {h : Mm} {c : Nat} {xs : List Vl} {ds : List PyData} (e : h[c]? = some xs) (b : snapL (snap n h) xs = some ds) : snap (n + 1) h (.cell c) = some (.list ds) := by
  simp only [snap, e, b, Option.map_some]
theorem sn_lst {n : Nat} {h : Mm} {xs : List Vl} {ds : List PyData} (b : snapL (snap n h) xs = some ds) : snap (n + 1) h (.lst xs) = some (.list ds) := by
  simp only [snap, b, Option.map_some]
theorem sn_tup {n : Nat} {h : Mm} {xs : List Vl} {ds : List PyData} (b : snapL (snap n h) xs = some ds) : snap (n + 1) h (.tup xs) = some (.tuple ds) := by
  simp only [snap, b, Option.map_some]
theorem sn_vL {n : Nat} {h : Mm} {xs : List Int} : snap (n + 1) h (vL xs) = some (dI xs) := sn_lst snL_ints
theorem sn8_vL {h : Mm} {xs : List Int} : snap 8 h (.lst (xs.map .int)) = some (dI xs) := sn_vL
def dSt (s : Int × List Int) : PyData := .tuple [.int s.1, dI s.2]
theorem sn_vP {n : Nat} {h : Mm} {d : Int} {xs : List Int} : snap (n + 2) h (vP d xs) = some (dSt (d, xs)) := sn_tup (snL_cons sn_int (snL_cons sn_vL snL_nil))
theorem sh_ok {w d : Nat} {x : PyData} (h : Sh w d x) (hw : w ≤ 100000) (hd : d ≤ 60) : reprOk x = true := by
  unfold reprOk
  rw [h.sw, h.cl, h.ls, decide_eq_true (Nat.le_trans h.dp hd), decide_eq_true (Nat.le_trans h.bk hw)]; rfl
theorem nab {i B : Int} (h1 : -B ≤ i) (h2 : i ≤ B) (hB : B < 10 ^ 50) : i.natAbs < 10 ^ 50 := by omega
/-! equality of lists of numbers -/
theorem eqvAll_ints : ∀ (xs ys : List Int), PyData.eqvAll (xs.map PyData.int) (ys.map PyData.int) = decide (xs = ys)
  | [], [] => by simp [PyData.eqvAll]
  | [], y :: ys => by simp [PyData.eqvAll]
  | x :: xs, [] => by simp [PyData.eqvAll]
  | x :: xs, y :: ys => by
    have ih := eqvAll_ints xs ys
    rw [List.map_cons, List.map_cons, PyData.eqvAll, ih, PyData.eqv]
    by_cases e : x = y
    · subst e; simp
    · simp [e]
theorem eqv_ints (xs ys : List Int) : PyData.eqv (dI xs) (dI ys) = decide (xs = ys) := by
  show PyData.eqv (.list _) (.list _) = _
  rw [PyData.eqv]; exact eqvAll_ints xs ys
section
variable {h : Mm} {xs ys : List Int}
theorem l_eqL : cmpV .eq (.lst (xs.map .int)) (.lst (ys.map .int)) h = .ok (.bl (decide (xs = ys))) h := by
  rw [l_eq sn8_vL sn8_vL (Lo.dI.shaped (by decide)) (Lo.dI.shaped (by decide)), eqv_ints]
theorem l_neL : cmpV .ne (.lst (xs.map .int)) (.lst (ys.map .int)) h = .ok (.bl (!decide (xs = ys))) h := by
  rw [l_ne sn8_vL sn8_vL (Lo.dI.shaped (by decide)) (Lo.dI.shaped (by decide)), eqv_ints]
theorem ok_dI {B : Int} (hB : B < 10 ^ 50) (hx : ∀ x ∈ xs, -B ≤ x ∧ x ≤ B) (hl : xs.length ≤ 90000) : reprOk (dI xs) = true :=
  sh_ok (Sh.dI fun x hm => nab (hx x hm).1 (hx x hm).2 hB) (by omega) (by decide)
theorem decide_self {α : Type} [DecidableEq α] {a : α} : decide (a = a) = true := by simp
end
end IR

set_option Elab.async false
set_option linter.all false
set_option maxRecDepth 100000
set_option maxHeartbeats 4000000
namespace IR
open PySem PySem.Spec PyProof.Rows L2 Dl
local macro_rules | `(tactic| walk_at "run") => `(tactic| simp (disch := omega) only [↓s_nil, ↓s_cons, ↓s_tnx, ↓s_trt, ↓s_tbk, ↓s_tct, ↓s_set, ↓s_par', ↓s_tset', ↓s_setix', ↓s_ife, ↓s_for, ↓s_ret, ↓s_retN, ↓s_expr, ↓s_pass, ↓s_brk, ↓s_cont, ↓w_int, ↓w_bl, ↓w_non, ↓w_str, ↓w_loc, ↓w_bin, ↓w_cmp, ↓w_chain, ↓w_and, ↓w_or, ↓w_not, ↓w_neg, ↓w_ite, ↓w_tup', ↓w_lst', ↓w_ix, ↓w_slice, ↓w_o0, ↓w_o1, ↓w_call, ↓w_callk, ↓w_bi, ↓w_isi, ↓w_app, ↓w_lc, ↓w_nil, ↓w_cons, ↓t_and, ↓t_or, ↓t_not, ↓t_tru, ↓i_over', ↓i_rng1', ↓i_rng2', ↓i_rng3', ↓i_zip', ↓i_enum', ↓wp_ok, ↓wp_next, ↓wp_ret, ↓wp_brk, ↓wp_cont, ↓at_z, ↓at_s, ↓onB_bl, ↓onI_int, ↓onC_cell, ↓onT_bl, ↓onT_non, ↓onT_cell', ↓onT_tup, ↓br_t, ↓br_f, ↓if_t, ↓onO_some, ↓itO_cell, ↓itO_tup, ↓itO_frz, seq_cell, seq_frz, watch_cell, watch_frz, List.set_cons_zero, List.set_cons_succ, List.map_cons, List.map_nil, List.cons_append, List.nil_append, List.append_nil, List.replicate_succ, List.replicate_zero, asgT, asgTs, Option.some.injEq, exists_eq_left', exists_eq_left, l_add, l_sub, ↓l_mul, ↓l_fdiv, ↓l_mod, ↓l_pow, ↓l_lt, ↓l_le, ↓l_gt, ↓l_ge, ↓l_eqI, ↓l_neI, ↓l_eqS, ↓l_neS, ↓l_isN, ↓l_isnN, ↓l_cat, ↓l_rep, isi_non_int, isi_non_bool, isi_non_str, isi_non_list, isi_non_tuple, isi_bl_int, isi_bl_bool, isi_bl_str, isi_bl_list, isi_bl_tuple, isi_int_int, isi_int_bool, isi_int_str, isi_int_list, isi_int_tuple, isi_str_int, isi_str_bool, isi_str_str, isi_str_list, isi_str_tuple, isi_tup_int, isi_tup_bool, isi_tup_str, isi_tup_list, isi_tup_tuple, isi_cell_int, isi_cell_bool, isi_cell_str, isi_cell_list, isi_cell_tuple, isi_frz_int, isi_frz_bool, isi_frz_str, isi_frz_list, isi_frz_tuple, ↓l_len, ↓l_lenT, ↓l_lenF, ↓l_abs, ↓l_max, ↓l_min, ↓l_toInt, ↓l_toIntB, ↓l_list, ↓l_tupT, ↓l_tupC, ↓l_sum, ↓l_all, ↓l_reprC, ↓l_reprT, Bool.not_true, Bool.not_false, List.getD_cons_zero, List.getD_cons_succ, ↓l_ixc, ↓l_ixt, ↓l_ixf, atI_0, atI_1, atI_2, atI_3, atI_end, ↓l_app, ↓l_slice, ixN_0, ixN_1, ixN_2, ↓tvL, wipeE, List.length_cons, List.length_nil, Nat.reduceAdd, Nat.reduceSub, Nat.reduceLeDiff, List.isEmpty_nil, List.isEmpty_cons, Int.reduceToNat, Int.reducePow, Int.reduceAdd, Int.reduceSub, Int.reduceMul, Int.reduceNeg, Int.reduceLT, Int.reduceLE, Bool.true_and, Bool.and_true, asInts_map, asBools_map, decide_true, decide_false, ↓onT_int, ↓onT_lst, ↓w_frz, ↓w_fls, ↓w_fcall, ↓w_fcallk, ↓fz_same, ↓fz_nw, isP_int, isP_bl, isP_str, isP_non, isP_frz, isP_cell, Bool.false_and, Bool.and_false, isP_lst, isP_tup, isPL_nil, isPL_cons, isPL_ints, isPL_bls, ↓l_lenL, ↓l_listL, ↓l_listT, ↓l_listF, ↓l_tupL, ↓l_sumL, ↓l_allL, ↓l_reprL, ↓l_maxL, ↓l_minL, ↓l_reprI, cutD_map, ↓l_ixl, ↓l_catL, ↓l_catC, ↓l_sliceL, ↓l_sliceF, ↓itO_lst, seq_lst, watch_lst, isi_lst_int, isi_lst_bool, isi_lst_str, isi_lst_list, isi_lst_tuple, sn8_vL, ↓l_eqL, ↓l_neL, decide_self, *])
local macro_rules | `(tactic| walk_at "runh") => `(tactic| simp (disch := omega) only [↓s_nil, ↓s_cons, ↓s_tnx, ↓s_trt, ↓s_tbk, ↓s_tct, ↓s_set, ↓s_par', ↓s_tset', ↓s_setix', ↓s_ife, ↓s_for, ↓s_ret, ↓s_retN, ↓s_expr, ↓s_pass, ↓s_brk, ↓s_cont, ↓w_int, ↓w_bl, ↓w_non, ↓w_str, ↓w_loc, ↓w_bin, ↓w_cmp, ↓w_chain, ↓w_and, ↓w_or, ↓w_not, ↓w_neg, ↓w_ite, ↓w_tup', ↓w_lst', ↓w_ix, ↓w_slice, ↓w_o0, ↓w_o1, ↓w_call, ↓w_callk, ↓w_bi, ↓w_isi, ↓w_app, ↓w_lc, ↓w_nil, ↓w_cons, ↓t_and, ↓t_or, ↓t_not, ↓t_tru, ↓i_over', ↓i_rng1', ↓i_rng2', ↓i_rng3', ↓i_zip', ↓i_enum', ↓wp_ok, ↓wp_next, ↓wp_ret, ↓wp_brk, ↓wp_cont, ↓at_z, ↓at_s, ↓onB_bl, ↓onI_int, ↓onC_cell, ↓onT_bl, ↓onT_non, ↓onT_cell', ↓onT_tup, ↓br_t, ↓br_f, ↓if_t, ↓onO_some, ↓itO_cell, ↓itO_tup, ↓itO_frz, seq_cell, seq_frz, watch_cell, watch_frz, List.set_cons_zero, List.set_cons_succ, List.map_cons, List.map_nil, List.cons_append, List.nil_append, List.append_nil, List.replicate_succ, List.replicate_zero, asgT, asgTs, Option.some.injEq, exists_eq_left', exists_eq_left, l_add, l_sub, ↓l_mul, ↓l_fdiv, ↓l_mod, ↓l_pow, ↓l_lt, ↓l_le, ↓l_gt, ↓l_ge, ↓l_eqI, ↓l_neI, ↓l_eqS, ↓l_neS, ↓l_isN, ↓l_isnN, ↓l_cat, ↓l_rep, isi_non_int, isi_non_bool, isi_non_str, isi_non_list, isi_non_tuple, isi_bl_int, isi_bl_bool, isi_bl_str, isi_bl_list, isi_bl_tuple, isi_int_int, isi_int_bool, isi_int_str, isi_int_list, isi_int_tuple, isi_str_int, isi_str_bool, isi_str_str, isi_str_list, isi_str_tuple, isi_tup_int, isi_tup_bool, isi_tup_str, isi_tup_list, isi_tup_tuple, isi_cell_int, isi_cell_bool, isi_cell_str, isi_cell_list, isi_cell_tuple, isi_frz_int, isi_frz_bool, isi_frz_str, isi_frz_list, isi_frz_tuple, ↓l_len, ↓l_lenT, ↓l_lenF, ↓l_abs, ↓l_max, ↓l_min, ↓l_toInt, ↓l_toIntB, ↓l_list, ↓l_tupT, ↓l_tupC, ↓l_sum, ↓l_all, ↓l_reprC, ↓l_reprT, Bool.not_true, Bool.not_false, List.getD_cons_zero, List.getD_cons_succ, ↓l_ixc, ↓l_ixt, ↓l_ixf, atI_0, atI_1, atI_2, atI_3, atI_end, ↓l_app, ↓l_slice, ixN_0, ixN_1, ixN_2, ↓tvL, wipeE, List.length_cons, List.length_nil, Nat.reduceAdd, Nat.reduceSub, Nat.reduceLeDiff, List.isEmpty_nil, List.isEmpty_cons, Int.reduceToNat, Int.reducePow, Int.reduceAdd, Int.reduceSub, Int.reduceMul, Int.reduceNeg, Int.reduceLT, Int.reduceLE, Bool.true_and, Bool.and_true, asInts_map, asBools_map, decide_true, decide_false, ↓onT_int, ↓onT_lst, ↓w_frz, ↓w_fls, ↓w_fcall, ↓w_fcallk, ↓fz_same, ↓fz_nw, isP_int, isP_bl, isP_str, isP_non, isP_frz, isP_cell, Bool.false_and, Bool.and_false, isP_lst, isP_tup, isPL_nil, isPL_cons, isPL_ints, isPL_bls, ↓l_lenL, ↓l_listL, ↓l_listT, ↓l_listF, ↓l_tupL, ↓l_sumL, ↓l_allL, ↓l_reprL, ↓l_maxL, ↓l_minL, ↓l_reprI, cutD_map, ↓l_ixl, ↓l_catL, ↓l_catC, ↓l_sliceL, ↓l_sliceF, ↓itO_lst, seq_lst, watch_lst, isi_lst_int, isi_lst_bool, isi_lst_str, isi_lst_list, isi_lst_tuple, sn8_vL, ↓l_eqL, ↓l_neL, decide_self, *] at this)
local macro_rules | `(tactic| walk_at "line") => `(tactic| (first | (with_reducible apply decide_eq_true; exact Nat.le_trans (by first | (simp only [List.length_cons, List.length_nil, List.length_append, List.length_map, List.length_range]; omega) | omega) (by decide : 100000 ≤ sizeLine)) | (with_reducible apply decide_eq_true; exact Nat.lt_of_le_of_lt (by first | (simp only [List.length_cons, List.length_nil, List.length_append, List.length_map, List.length_range]; omega) | omega) (by decide : 100000 < sizeLine)) | (with_reducible exact line_le (by omega)) | (with_reducible exact line_lt (by omega))))
local macro_rules | `(tactic| walk_at "num") => `(tactic| (first | (simp only [big, wid, small, Bool.and_eq_true, decide_eq_true_eq]; omega) | (simp only [big, wid, small, Bool.and_eq_true, decide_eq_true_eq]; refine ⟨?_, ?_⟩ <;> omega)))
local macro_rules | `(tactic| walk_at "go") => `(tactic| first | walk_at "run" | (with_reducible refine nw_mk fun p h2 e1 e2 e3 e4 => ?_) | ((with_reducible refine up_mk ?up fun h2 e1 e2 e3 => ?_); (case up => omega)) | ((with_reducible refine if_mk ?gu ?_); (case gu => first | walk_at "num" | walk_at "line")))
local macro_rules | `(tactic| walk_at "goc") => `(tactic| first | walk_at "run" | ((with_reducible apply nw_cs); (case hc => assumption); intro p h2 e1 e2 e3 e4 e5 e6 e7) | ((with_reducible apply up_cs); (case hc => assumption); (case up => omega); (case ge => omega); intro h2 e1 e2 e3 e4) | ((with_reducible apply dr_cs); (case hT => assumption); (case hc => assumption); (case hm => omega); (case hm2 => omega); (case hk => omega); intro r h2 e1 e2 e3 e4 e5) | ((with_reducible refine if_mk ?gu ?_); (case gu => first | walk_at "num" | walk_at "line")))
def Stand : Int → List Int → List Int → Prop
  | _, [], [] => True
  | a, p :: ps, x :: xs => x ≤ a ∧ a - x ≤ p ∧ Stand x ps xs
  | _, _, _ => False
theorem Stand.len : ∀ {a : Int} {ps xs : List Int}, Stand a ps xs → xs.length = ps.length
  | _, [], [], _ => rfl
  | _, _ :: _, _ :: _, h => by simp [Stand.len h.2.2]
  | _, [], _ :: _, h => h.elim
  | _, _ :: _, [], h => h.elim
structure Plays (ps : List Int) : Prop where
  one : 1 ≤ ps.length
  most : ps.length ≤ 8
  nn : ∀ p ∈ ps, 0 ≤ p

/-- the rest of a state's wheels, and the place ahead -/
theorem Stand.at {d : Int} {ps xs : List Int} (hs : Stand d ps xs) : ∀ {pre : List (Int × Int)} {a b : Int} {post : List (Int × Int)}, ps.zip xs = pre ++ (a, b) :: post → b ≤ (pre.map (·.2)).getLastD d ∧ (pre.map (·.2)).getLastD d - b ≤ a := by
  intro pre
  induction pre generalizing d ps xs with
  | nil =>
    intro a b post e
    cases ps with
    | nil => simp at e
    | cons p ps => cases xs with
      | nil => simp at e
      | cons x xs => simp at e; obtain ⟨⟨rfl, rfl⟩, _⟩ := e; exact ⟨hs.1, hs.2.1⟩
  | cons z pre ih =>
    intro a b post e
    cases ps with
    | nil => simp at e
    | cons p ps => cases xs with
      | nil => simp at e
      | cons x xs =>
        simp at e
        obtain ⟨e1, e2⟩ := e
        subst e1
        have := ih hs.2.2 e2
        rw [List.map_cons, List.getLastD_cons]
        exact this
theorem getLastD_snoc {α : Type} (xs : List α) (x d : α) : (xs ++ [x]).getLastD d = x := by simp

theorem vLeast_all {ps : List Int} (h : ∀ p ∈ ps, 0 ≤ p) : ((vI ps).all fun x => vLeast x 0) = true := by
  rw [List.all_eq_true]
  intro x hx
  obtain ⟨i, hi, rfl⟩ := List.mem_map.mp hx
  exact decide_eq_true (h i hi)

def pushL (t : Int) : Int → List Int → List Int → List Int
  | a, p :: ps, x :: xs => (if 0 < t then max x (a - p) else min x a) :: pushL t (if 0 < t then max x (a - p) else min x a) ps xs
  | _, _, _ => []
def lastL (t a : Int) (ps xs : List Int) : Int := (pushL t a ps xs).getLastD a
theorem pushL_snoc {t : Int} : ∀ {a : Int} {ps xs : List Int} {p x : Int}, ps.length = xs.length → pushL t a (ps ++ [p]) (xs ++ [x]) = pushL t a ps xs ++ [if 0 < t then max x (lastL t a ps xs - p) else min x (lastL t a ps xs)]
  | a, [], [], p, x, _ => by simp [pushL, lastL]
  | a, [], _ :: _, _, _, h => by simp at h
  | a, _ :: _, [], _, _, h => by simp at h
  | a, q :: ps, y :: xs, p, x, h => by
    simp only [List.cons_append, pushL]
    rw [pushL_snoc (by simpa using h)]
    simp only [lastL, pushL, List.getLastD_cons]

abbrev Stt := Int × List Int
def stepS (ps : List Int) (s : Stt) (t : Int) : Stt := (s.1 + t, pushL t (s.1 + t) ps s.2)
def endS (ps : List Int) (s : Stt) (ts : List Int) : Stt := ts.foldl (stepS ps) s
def trailS (ps : List Int) : Stt → List Int → List Stt
  | _, [] => []
  | s, t :: ts => stepS ps s t :: trailS ps (stepS ps s t) ts
theorem endS_snoc (ps : List Int) (s : Stt) (us : List Int) (x : Int) : endS ps s (us ++ [x]) = stepS ps (endS ps s us) x := by rw [endS, List.foldl_append]; rfl
theorem trailS_snoc (ps : List Int) : ∀ (us : List Int) (s : Stt) (x : Int), trailS ps s (us ++ [x]) = trailS ps s us ++ [stepS ps (endS ps s us) x]
  | [], s, x => rfl
  | u :: us, s, x => by simp only [List.cons_append, trailS, trailS_snoc ps us]; rfl
theorem trailS_len (ps : List Int) : ∀ (us : List Int) (s : Stt), (trailS ps s us).length = us.length
  | [], _ => rfl
  | u :: us, s => by simp [trailS, trailS_len ps us]
theorem pushL_len' (t : Int) : ∀ (a : Int) (ps xs : List Int), xs.length = ps.length → (pushL t a ps xs).length = ps.length
  | _, [], [], _ => rfl
  | _, [], _ :: _, h => by simp at h
  | _, _ :: _, [], h => by simp at h
  | _, p :: ps, x :: xs, h => by simp only [pushL, List.length_cons]; rw [pushL_len' t _ ps xs (by simpa using h)]
theorem endS_len (ps : List Int) : ∀ (ts : List Int) (s : Stt), s.2.length = ps.length → (endS ps s ts).2.length = ps.length
  | [], _, h => h
  | t :: ts, s, h => endS_len ps ts (stepS ps s t) (pushL_len' t _ ps s.2 h)

/-! ## turning, by the mathematics -/
theorem push_up {t u : Int} (ht : 0 < t) (hu : 0 < u) : ∀ {ps xs : List Int} {a b : Int}, a ≤ b → pushL t b ps (pushL u a ps xs) = pushL t b ps xs
  | [], _, _, _, _ => by simp [pushL]
  | _ :: _, [], _, _, _ => by simp [pushL]
  | p :: ps, x :: xs, a, b, h => by
    simp only [pushL, if_pos ht, if_pos hu]
    have e : max (max x (a - p)) (b - p) = max x (b - p) := by omega
    rw [e, push_up ht hu (by omega)]
theorem push_back {t u : Int} (ht : ¬ 0 < t) (hu : ¬ 0 < u) : ∀ {ps xs : List Int} {a b : Int}, b ≤ a → pushL t b ps (pushL u a ps xs) = pushL t b ps xs
  | [], _, _, _, _ => by simp [pushL]
  | _ :: _, [], _, _, _ => by simp [pushL]
  | p :: ps, x :: xs, a, b, h => by
    simp only [pushL, if_neg ht, if_neg hu]
    have e : min (min x a) b = min x b := by omega
    rw [e, push_back ht hu (by omega)]
theorem push_sign {t u : Int} (h : (0 < t) = (0 < u)) : ∀ {ps xs : List Int} {a : Int}, pushL t a ps xs = pushL u a ps xs
  | [], _, _ => by simp [pushL]
  | _ :: _, [], _ => by simp [pushL]
  | p :: ps, x :: xs, a => by
    simp only [pushL, h, push_sign h (ps := ps) (xs := xs)]
theorem push_id {t : Int} : ∀ {ps xs : List Int} {a : Int}, Stand a ps xs → (∀ p ∈ ps, 0 ≤ p) → pushL t a ps xs = xs
  | [], [], _, _, _ => by simp [pushL]
  | _ :: _, [], _, h, _ => h.elim
  | [], _ :: _, _, h, _ => h.elim
  | p :: ps, x :: xs, a, h, hp => by
    have h0 := hp p (by simp)
    have h1 := h.1
    have h2 := h.2.1
    have e : (if 0 < t then max x (a - p) else min x a) = x := by split <;> omega
    simp only [pushL, e, push_id h.2.2 fun p hp' => hp p (List.mem_cons_of_mem _ hp')]
theorem push_stand {t : Int} : ∀ {ps xs : List Int} {a b : Int}, Stand a ps xs → (∀ p ∈ ps, 0 ≤ p) → (if 0 < t then a ≤ b else b ≤ a) → Stand b ps (pushL t b ps xs)
  | [], [], _, _, _, _, _ => trivial
  | _ :: _, [], _, _, h, _, _ => h.elim
  | [], _ :: _, _, _, h, _, _ => h.elim
  | p :: ps, x :: xs, a, b, h, hp, hb => by
    have h0 := hp p (by simp)
    have h1 := h.1
    have h2 := h.2.1
    simp only [pushL]
    refine ⟨?_, ?_, push_stand h.2.2 (fun p hp' => hp p (List.mem_cons_of_mem _ hp')) ?_⟩
    · split at hb <;> rename_i ht <;> simp only [ht, if_true, if_false] <;> omega
    · split at hb <;> rename_i ht <;> simp only [ht, if_true, if_false] <;> omega
    · split at hb <;> rename_i ht <;> simp only [ht, if_true, if_false] <;> omega
/-- the state of a state and turns stands -/
theorem step_stand {ps : List Int} {s : Stt} {t : Int} (hs : Stand s.1 ps s.2) (hp : ∀ p ∈ ps, 0 ≤ p) : Stand (stepS ps s t).1 ps (stepS ps s t).2 := by
  refine push_stand (a := s.1) (b := s.1 + t) hs hp ?_
  split <;> omega
/-- bounds -/
def Bd (B : Int) (s : Stt) : Prop := (-B ≤ s.1 ∧ s.1 ≤ B) ∧ ∀ x ∈ s.2, -B ≤ x ∧ x ≤ B
theorem push_bd {t B : Int} : ∀ {ps xs : List Int} {a : Int}, (∀ p ∈ ps, 0 ≤ p) → -B ≤ a → a ≤ B → (∀ x ∈ xs, -B ≤ x ∧ x ≤ B) → ∀ x ∈ pushL t a ps xs, -B ≤ x ∧ x ≤ B
  | [], _, _, _, _, _, _, x, hx => by simp [pushL] at hx
  | _ :: _, [], _, _, _, _, _, x, hx => by simp [pushL] at hx
  | p :: ps, y :: xs, a, hp, h1, h2, hb, x, hx => by
    have h0 := hp p (by simp)
    have h3 := hb y (by simp)
    have e : -B ≤ (if 0 < t then max y (a - p) else min y a) ∧ (if 0 < t then max y (a - p) else min y a) ≤ B := by split <;> omega
    simp only [pushL] at hx
    rcases List.mem_cons.mp hx with rfl | hx
    · exact e
    · exact push_bd (fun p hp' => hp p (List.mem_cons_of_mem _ hp')) e.1 e.2 (fun x hx => hb x (List.mem_cons_of_mem _ hx)) x hx
theorem step_bd {ps : List Int} {s : Stt} {t B S : Int} (hp : ∀ p ∈ ps, 0 ≤ p) (h : Bd B s) (h1 : -S ≤ t) (h2 : t ≤ S) : Bd (B + S) (stepS ps s t) := by
  obtain ⟨⟨a, b⟩, c⟩ := h
  refine ⟨⟨?_, ?_⟩, push_bd hp ?_ ?_ fun x hx => ?_⟩
  · show -(B + S) ≤ s.1 + t; omega
  · show s.1 + t ≤ B + S; omega
  · omega
  · omega
  · have := c x hx; omega
theorem Bd.mono {B C : Int} {s : Stt} (h : Bd B s) (k : B ≤ C) : Bd C s := by
  obtain ⟨⟨a, b⟩, c⟩ := h
  exact ⟨⟨by omega, by omega⟩, fun x hx => by have := c x hx; omega⟩
theorem trail_bd {ps : List Int} {S : Int} (hp : ∀ p ∈ ps, 0 ≤ p) (hS : 0 ≤ S) : ∀ {ts : List Int} {s : Stt} {B : Int}, Bd B s → (∀ t ∈ ts, -S ≤ t ∧ t ≤ S) → (∀ z ∈ trailS ps s ts, Bd (B + S * ts.length) z) ∧ Bd (B + S * ts.length) (endS ps s ts)
  | [], s, B, h, _ => ⟨by simp [trailS], h.mono (by simp)⟩
  | t :: ts, s, B, h, ht => by
    have h1 := ht t (by simp)
    have h2 := step_bd hp h h1.1 h1.2
    have e : B + S * ((t :: ts).length : Nat) = B + S + S * ts.length := by rw [List.length_cons]; push_cast; rw [Int.mul_add, Int.mul_one]; omega
    have h3 : 0 ≤ S * (ts.length : Int) := Int.mul_nonneg hS (by omega)
    obtain ⟨i1, i2⟩ := trail_bd hp hS h2 fun t ht' => ht t (List.mem_cons_of_mem _ ht')
    rw [e]
    refine ⟨fun z hz => ?_, i2⟩
    rcases List.mem_cons.mp hz with rfl | hz
    · exact h2.mono (by omega)
    · exact i1 z hz
theorem trail_len {ps : List Int} : ∀ {ts : List Int} {s : Stt}, s.2.length = ps.length → ∀ z ∈ trailS ps s ts, z.2.length = ps.length
  | [], _, _, z, hz => by simp [trailS] at hz
  | t :: ts, s, h, z, hz => by
    rcases List.mem_cons.mp hz with rfl | hz
    · exact pushL_len' t _ ps s.2 h
    · exact trail_len (s := stepS ps s t) (pushL_len' t _ ps s.2 h) z hz

theorem Stand.snoc : ∀ {a : Int} {ps xs : List Int} {p x : Int}, Stand a ps xs → x ≤ xs.getLastD a → xs.getLastD a - x ≤ p → Stand a (ps ++ [p]) (xs ++ [x])
  | a, [], [], p, x, _, h1, h2 => ⟨h1, h2, trivial⟩
  | a, _ :: _, [], _, _, h, _, _ => h.elim
  | a, [], _ :: _, _, _, h, _, _ => h.elim
  | a, q :: ps, y :: xs, p, x, h, h1, h2 => by
    rw [List.getLastD_cons] at h1 h2
    exact ⟨h.1, h.2.1, h.2.2.snoc h1 h2⟩
theorem Stand.bd {m : Int} : ∀ {ps xs : List Int} {a : Int}, Stand a ps xs → (∀ p ∈ ps, 0 ≤ p ∧ p ≤ m) → ∀ x ∈ xs, x ≤ a ∧ a - m * ps.length ≤ x
  | [], [], _, _, _, x, hx => by cases hx
  | _ :: _, [], _, h, _, _, _ => h.elim
  | [], _ :: _, _, h, _, _, _ => h.elim
  | q :: ps, y :: xs, a, h, hp, x, hx => by
    have hq := hp q (by simp)
    have e : m * ((q :: ps).length : Nat) = m * (ps.length : Int) + m := by
      rw [List.length_cons]; push_cast; rw [Int.mul_add, Int.mul_one]
    have h1 := h.1
    have h2 := h.2.1
    rcases List.mem_cons.mp hx with rfl | hx
    · have : 0 ≤ m * (ps.length : Int) := Int.mul_nonneg (by omega) (by omega)
      omega
    · have := h.2.2.bd (fun p hp' => hp p (List.mem_cons_of_mem _ hp')) x hx
      omega

theorem step_step {ps : List Int} {s : Stt} {a b : Int} (h : (0 < a ∧ 0 < b) ∨ (a < 0 ∧ b < 0)) : stepS ps (stepS ps s a) b = stepS ps s (a + b) := by
  have e : s.1 + a + b = s.1 + (a + b) := by omega
  rcases h with ⟨h1, h2⟩ | ⟨h1, h2⟩
  · show (s.1 + a + b, pushL b (s.1 + a + b) ps (pushL a (s.1 + a) ps s.2)) = (s.1 + (a + b), pushL (a + b) (s.1 + (a + b)) ps s.2)
    rw [push_up h2 h1 (by omega), e, push_sign (t := b) (u := a + b) (by simp [h2]; omega)]
  · show (s.1 + a + b, pushL b (s.1 + a + b) ps (pushL a (s.1 + a) ps s.2)) = (s.1 + (a + b), pushL (a + b) (s.1 + (a + b)) ps s.2)
    rw [push_back (by omega) (by omega) (by omega), e, push_sign (t := b) (u := a + b) (by simp; omega)]

/-! ## defs over locks, states, turns -/
abbrev vS (s : Stt) : Vl := vP s.1 s.2
theorem isP_vP {d : Int} {xs : List Int} : isP (vP d xs) = true := by simp [isP, isPL]
structure TLk (T : Str → Option Fn) : Prop where
  int : T "is_integer" = some ir_is_integer
  least : T "is_at_least" = some ir_is_at_least
  pair : T "is_pair" = some ir_is_pair
  plays : T "are_plays" = some ir_are_plays
  lock : T "check_lock" = some ir_check_lock
structure TTn (T : Str → Option Fn) : Prop extends TLk T where
  turn : T "is_turn" = some ir_is_turn
  places : T "are_places" = some ir_are_places
  state : T "check_state" = some ir_check_state
  turns : T "check_turns" = some ir_check_turns
  once : T "_turned_once" = some ir_turned_once
  trail : T "state_trail" = some ir_state_trail
  turned : T "turned_state" = some ir_turned_state
section
variable {T : Str → Option Fn} {k : Nat}
theorem pu_is_pair2 {a b : Vl} (hT : T "is_pair" = some ir_is_pair) : Pu T (k + 1) "is_pair" [.tup [a, b]] (.bl true) := pu_mk hT rfl (by decide) fun h => by
  simp only [ir_is_pair]
  walk_at "run"
  exact pu_end rfl
theorem pu_are_plays {ps : List Int} (t : TLk T) (hP : Plays ps) : Pu T (k + 3) "are_plays" [vL ps] (.bl true) := pu_mk t.plays rfl (by decide) fun h => by
  simp only [ir_are_plays]
  have c1 : decide (1 ≤ (((vI ps).length : Nat) : Int)) = true := by rw [List.length_map]; exact decide_eq_true (by have := hP.one; omega)
  have c2 : decide ((((vI ps).length : Nat) : Int) ≤ 8) = true := by rw [List.length_map]; exact decide_eq_true (by have := hP.most; omega)
  walk_at "run"
  refine lc_map (α := Int) .int (fun _ => true) (fun p => .bl (vLeast (.int p) 0)) (by have := hP.most; omega) (fun p hp => ?_) ?_
  · refine ⟨_, rfl, ?_⟩
    walk_at "run"
    refine ⟨trivial, trivial, fun _ => pu_use (pu_is_at_least t.int t.least) ?_⟩
    exact ⟨rfl, rfl⟩
  · have e1 : (ps.filter fun _ => true).map (fun p => Vl.bl (vLeast (.int p) 0)) = (List.replicate ps.length true).map .bl := by
      rw [List.filter_eq_self.mpr fun _ _ => rfl]
      refine List.ext_getElem (by simp) fun i h1 h2 => ?_
      have := hP.nn (ps[i]'(by simpa using h1)) (List.getElem_mem _)
      simp [vLeast, this]
    rw [e1]
    have e2 : (List.replicate ps.length true).all id = true := by simp [List.all_replicate]
    generalize List.replicate ps.length true = bs at e2
    walk_at "run"
    exact pu_end rfl
theorem pu_are_places {ps xs : List Int} {d : Int} (hI : T "is_integer" = some ir_is_integer) (hT : T "are_places" = some ir_are_places) (hs : Stand d ps xs) : Pu T (k + 2) "are_places" [vL ps, .int d, vL xs] (.bl true) := pu_mk hT rfl (by decide) fun h => by
  simp only [ir_are_places]
  have hl := hs.len
  have c1 : ((((vI xs).length : Nat) : Int) == (((vI ps).length : Nat) : Int)) = true := by rw [List.length_map, List.length_map, hl]; simp
  walk_at "run"
  rw [zipV_map]
  refine for_map _ (fun us ρ h' => h' = h ∧ ∃ (a b : Option Vl), ρ = [some (vL ps), some (.int d), some (vL xs), some (.int ((us.map (·.2)).getLastD d)), a, b]) ⟨rfl, none, none, rfl⟩ ?_ ?_
  · rintro us ⟨u, v⟩ ws ρ h' e ⟨rfl, a, b, rfl⟩
    obtain ⟨g1, g2⟩ := hs.at e
    clear e
    refine ⟨_, rfl, ?_⟩
    have c2 := decide_eq_true (show (0 : Int) ≤ (us.map (·.2)).getLastD d - v by omega)
    have c3 := decide_eq_true (show (us.map (·.2)).getLastD d - v ≤ u by omega)
    walk_at "run"
    refine pu_use (pu_is_integer hI) ?_
    simp only [vInt]
    walk_at "run"
    exact ⟨trivial, some (.int u), some (.int v), by simp⟩
  · rintro ρ h' ⟨rfl, a, b, rfl⟩
    walk_at "run"
    exact pu_end rfl
theorem pu_check_lock {r : Int} {ps : List Int} (t : TLk T) (hr : 2 ≤ r) (hP : Plays ps) : Pu T (k + 4) "check_lock" [vP r ps] .non := pu_mk t.lock rfl (by decide) fun h => by
  simp only [ir_check_lock]
  walk_at "run"
  refine pu_use (pu_is_pair2 (k := k + 2) t.pair) ?_
  walk_at "run"
  refine pu_use (pu_is_at_least (k := k + 1) t.int t.least) ?_
  simp only [vLeast, decide_eq_true hr]
  walk_at "run"
  refine pu_use (pu_are_plays (k := k) t hP) ?_
  walk_at "run"
  exact pu_end rfl
theorem pu_check_state {r d : Int} {ps xs : List Int} (t : TTn T) (hs : Stand d ps xs) : Pu T (k + 3) "check_state" [vP r ps, vP d xs] .non := pu_mk t.state rfl (by decide) fun h => by
  simp only [ir_check_state]
  walk_at "run"
  refine pu_use (pu_is_pair2 (k := k + 1) t.pair) ?_
  walk_at "run"
  refine pu_use (pu_is_integer (k := k + 1) t.int) ?_
  simp only [vInt]
  walk_at "run"
  refine pu_use (pu_are_places (k := k) t.int t.places hs) ?_
  walk_at "run"
  exact pu_end rfl
theorem pu_check_dial {d : Int} (hI : T "is_integer" = some ir_is_integer) (hT : T "check_dial" = some ir_check_dial) : Pu T (k + 2) "check_dial" [.int d] .non := pu_mk hT rfl (by decide) fun h => by
  simp only [ir_check_dial]
  walk_at "run"
  refine pu_use (pu_is_integer hI) ?_
  simp only [vInt]
  walk_at "run"
  exact pu_end rfl
theorem pu_turned_once {r d t : Int} {ps xs : List Int} (hT : T "_turned_once" = some ir_turned_once) (hl : xs.length = ps.length) (hm : ps.length ≤ 60) : Pu T (k + 1) "_turned_once" [vP r ps, vP d xs, .int t] (vS (stepS ps (d, xs) t)) := pu_mk hT rfl (by decide) fun h => by
  simp only [ir_turned_once]
  repeat walk_at "go"
  rename_i p h2 e1 e2 e3 e4
  subst e1
  rw [zipV_map]
  refine for_map _ (fun us ρ h' => ∃ (a b : Option Vl), ρ = [some (vP r ps), some (vP d xs), some (.int t), some (.int d), some (vL xs), some (.int (d + t)), some (.cell h.length), some (.int (lastL t (d + t) (us.map (·.1)) (us.map (·.2)))), a, b] ∧ Ext h h' ∧ h.length < h'.length ∧ h'[h.length]? = some (vI (pushL t (d + t) (us.map (·.1)) (us.map (·.2)))) ∧ us.length ≤ 60)
    ⟨none, none, by simp [lastL, pushL], .new rfl e2 e4, by omega, e3, by simp⟩ ?_ ?_
  · rintro us ⟨u, v⟩ ws ρ h' e ⟨a, b, rfl, x, lp, g, hl2⟩
    have len := congrArg List.length e
    simp only [List.length_zip, List.length_append, List.length_cons] at len
    clear e
    have snoc := pushL_snoc (t := t) (a := d + t) (ps := us.map (·.1)) (xs := us.map (·.2)) (p := u) (x := v) (by simp)
    have last : lastL t (d + t) (us.map (·.1) ++ [u]) (us.map (·.2) ++ [v]) = if 0 < t then max v (lastL t (d + t) (us.map (·.1)) (us.map (·.2)) - u) else min v (lastL t (d + t) (us.map (·.1)) (us.map (·.2))) := by
      rw [lastL, snoc, getLastD_snoc]
    have plen : (vI (pushL t (d + t) (us.map (·.1)) (us.map (·.2)))).length ≤ 60 := by
      rw [List.length_map, pushL_len' _ _ _ _ (by simp)]; simp; omega
    refine ⟨_, rfl, ?_⟩
    by_cases ht : 0 < t
    · rw [if_pos ht] at snoc last
      repeat walk_at "go"
      rename_i h3 g1 g2 g3
      exact ⟨some (.int u), some (.int v), by simp [last], x.up (by omega) g1 g3, by first | trivial | omega, by simp [snoc, vI], by simp; omega⟩
    · rw [if_neg ht] at snoc last
      repeat walk_at "go"
      rename_i h3 g1 g2 g3
      exact ⟨some (.int u), some (.int v), by simp [last], x.up (by omega) g1 g3, by first | trivial | omega, by simp [snoc, vI], by simp; omega⟩
  · rintro ρ h' ⟨a, b, rfl, x, lp, g, hl2⟩
    rw [List.map_fst_zip (by omega), List.map_snd_zip (by omega)] at g
    repeat walk_at "go"
    exact pu_endT x (Nat.le_refl _) g isPL_ints
theorem pu_state_trail {r d : Int} {ps xs ts : List Int} (t : TTn T) (hr : 2 ≤ r) (hP : Plays ps) (hs : Stand d ps xs) (hts : Turns ts) : Pu T (k + 5) "state_trail" [vP r ps, vP d xs, vL ts] (.lst ((trailS ps (d, xs) ts).map vS)) := pu_mk t.trail rfl (by decide) fun h => by
  simp only [ir_state_trail]
  walk_at "run"
  refine pu_use (pu_check_lock (k := k) t.toTLk hr hP) ?_
  walk_at "run"
  refine pu_use (pu_check_state (k := k + 1) t hs) ?_
  walk_at "run"
  refine pu_use (pu_check_turns (k := k + 1) t.int t.turn t.turns hts) ?_
  repeat walk_at "go"
  rename_i p h2 e1 e2 e3 e4
  subst e1
  have hm := hP.most
  have h60 := hts.1
  have hl := hs.len
  refine for_map _ (fun us ρ h' => ∃ (a : Option Vl), ρ = [some (vP r ps), some (vP d xs), some (vL ts), some (.cell h.length), some (vS (endS ps (d, xs) us)), a] ∧ us.length ≤ 60 ∧ Ext h h' ∧ h.length < h'.length ∧ h'[h.length]? = some ((trailS ps (d, xs) us).map vS)) ⟨none, rfl, by simp, .new rfl e2 e4, by omega, e3⟩ ?_ ?_
  · rintro us u ws ρ h' e ⟨a, rfl, l, x, lp, g⟩
    have len := congrArg List.length e
    simp only [List.length_append, List.length_cons] at len
    clear e
    have tl : ((trailS ps (d, xs) us).map vS).length = us.length := by rw [List.length_map, trailS_len]
    refine ⟨_, rfl, ?_⟩
    walk_at "run"
    refine pu_use (pu_turned_once (k := k + 3) t.once (endS_len ps us (d, xs) hl) (by omega)) ?_
    have nx : (trailS ps (d, xs) us).map vS ++ [vS (stepS ps (endS ps (d, xs) us) u)] = (trailS ps (d, xs) (us ++ [u])).map vS := by rw [trailS_snoc]; simp
    generalize (trailS ps (d, xs) us).map vS = tr at g tl nx
    repeat walk_at "go"
    rename_i h3 g1 g2 g3
    exact ⟨some (.int u), by rw [endS_snoc], by simp; omega, x.up (by omega) g1 g3, by first | trivial | omega, by first | trivial | exact nx⟩
  · rintro ρ h' ⟨a, rfl, l, x, lp, g⟩
    walk_at "run"
    exact pu_endC x (Nat.le_refl _) g (isPL_map (fun s => isP_vP) _)
theorem pu_turned_state {r d : Int} {ps xs ts : List Int} (t : TTn T) (hr : 2 ≤ r) (hP : Plays ps) (hs : Stand d ps xs) (hts : Turns ts) : Pu T (k + 6) "turned_state" [vP r ps, vP d xs, vL ts] (vS (endS ps (d, xs) ts)) := pu_mk t.turned rfl (by decide) fun h => by
  simp only [ir_turned_state]
  walk_at "run"
  refine pu_use (pu_state_trail (k := k) t hr hP hs hts) ?_
  rcases List.eq_nil_or_concat ts with e | ⟨us, u, e⟩
  · subst e
    simp only [trailS, List.map_nil]
    repeat walk_at "go"
    exact pu_end isP_vP
  · rw [List.concat_eq_append] at e
    subst e
    rw [trailS_snoc, List.map_append, endS_snoc]
    have ne : ((trailS ps (d, xs) us).map vS ++ [vS (stepS ps (endS ps (d, xs) us) u)]).isEmpty = false := by simp
    have la : atI ((trailS ps (d, xs) us).map vS ++ [vS (stepS ps (endS ps (d, xs) us) u)]) (-1) = some (vS (stepS ps (endS ps (d, xs) us) u)) := atI_end
    try simp only [List.map_cons, List.map_nil]
    walk_at "run"
    exact pu_end isP_vP
end
end IR

set_option Elab.async false
set_option linter.all false
set_option maxRecDepth 100000
set_option maxHeartbeats 4000000
namespace IR
open PySem PySem.Spec PyProof.Rows L2 Dl
local macro_rules | `(tactic| walk_at "run") => `(tactic| simp (disch := omega) only [↓s_nil, ↓s_cons, ↓s_tnx, ↓s_trt, ↓s_tbk, ↓s_tct, ↓s_set, ↓s_par', ↓s_tset', ↓s_setix', ↓s_ife, ↓s_for, ↓s_ret, ↓s_retN, ↓s_expr, ↓s_pass, ↓s_brk, ↓s_cont, ↓w_int, ↓w_bl, ↓w_non, ↓w_str, ↓w_loc, ↓w_bin, ↓w_cmp, ↓w_chain, ↓w_and, ↓w_or, ↓w_not, ↓w_neg, ↓w_ite, ↓w_tup', ↓w_lst', ↓w_ix, ↓w_slice, ↓w_o0, ↓w_o1, ↓w_call, ↓w_callk, ↓w_bi, ↓w_isi, ↓w_app, ↓w_lc, ↓w_nil, ↓w_cons, ↓t_and, ↓t_or, ↓t_not, ↓t_tru, ↓i_over', ↓i_rng1', ↓i_rng2', ↓i_rng3', ↓i_zip', ↓i_enum', ↓wp_ok, ↓wp_next, ↓wp_ret, ↓wp_brk, ↓wp_cont, ↓at_z, ↓at_s, ↓onB_bl, ↓onI_int, ↓onC_cell, ↓onT_bl, ↓onT_non, ↓onT_cell', ↓onT_tup, ↓br_t, ↓br_f, ↓if_t, ↓onO_some, ↓itO_cell, ↓itO_tup, ↓itO_frz, seq_cell, seq_frz, watch_cell, watch_frz, List.set_cons_zero, List.set_cons_succ, List.map_cons, List.map_nil, List.cons_append, List.nil_append, List.append_nil, List.replicate_succ, List.replicate_zero, asgT, asgTs, Option.some.injEq, exists_eq_left', exists_eq_left, l_add, l_sub, ↓l_mul, ↓l_fdiv, ↓l_mod, ↓l_pow, ↓l_lt, ↓l_le, ↓l_gt, ↓l_ge, ↓l_eqI, ↓l_neI, ↓l_eqS, ↓l_neS, ↓l_isN, ↓l_isnN, ↓l_cat, ↓l_rep, isi_non_int, isi_non_bool, isi_non_str, isi_non_list, isi_non_tuple, isi_bl_int, isi_bl_bool, isi_bl_str, isi_bl_list, isi_bl_tuple, isi_int_int, isi_int_bool, isi_int_str, isi_int_list, isi_int_tuple, isi_str_int, isi_str_bool, isi_str_str, isi_str_list, isi_str_tuple, isi_tup_int, isi_tup_bool, isi_tup_str, isi_tup_list, isi_tup_tuple, isi_cell_int, isi_cell_bool, isi_cell_str, isi_cell_list, isi_cell_tuple, isi_frz_int, isi_frz_bool, isi_frz_str, isi_frz_list, isi_frz_tuple, ↓l_len, ↓l_lenT, ↓l_lenF, ↓l_abs, ↓l_max, ↓l_min, ↓l_toInt, ↓l_toIntB, ↓l_list, ↓l_tupT, ↓l_tupC, ↓l_sum, ↓l_all, ↓l_reprC, ↓l_reprT, Bool.not_true, Bool.not_false, List.getD_cons_zero, List.getD_cons_succ, ↓l_ixc, ↓l_ixt, ↓l_ixf, atI_0, atI_1, atI_2, atI_3, atI_end, ↓l_app, ↓l_slice, ixN_0, ixN_1, ixN_2, ↓tvL, wipeE, List.length_cons, List.length_nil, Nat.reduceAdd, Nat.reduceSub, Nat.reduceLeDiff, List.isEmpty_nil, List.isEmpty_cons, Int.reduceToNat, Int.reducePow, Int.reduceAdd, Int.reduceSub, Int.reduceMul, Int.reduceNeg, Int.reduceLT, Int.reduceLE, Bool.true_and, Bool.and_true, asInts_map, asBools_map, decide_true, decide_false, ↓onT_int, ↓onT_lst, ↓w_frz, ↓w_fls, ↓w_fcall, ↓w_fcallk, ↓fz_same, ↓fz_nw, isP_int, isP_bl, isP_str, isP_non, isP_frz, isP_cell, Bool.false_and, Bool.and_false, isP_lst, isP_tup, isPL_nil, isPL_cons, isPL_ints, isPL_bls, ↓l_lenL, ↓l_listL, ↓l_listT, ↓l_listF, ↓l_tupL, ↓l_sumL, ↓l_allL, ↓l_reprL, ↓l_maxL, ↓l_minL, ↓l_reprI, cutD_map, ↓l_ixl, ↓l_catL, ↓l_catC, ↓l_sliceL, ↓l_sliceF, ↓itO_lst, seq_lst, watch_lst, isi_lst_int, isi_lst_bool, isi_lst_str, isi_lst_list, isi_lst_tuple, sn8_vL, ↓l_eqL, ↓l_neL, decide_self, *])
local macro_rules | `(tactic| walk_at "runh") => `(tactic| simp (disch := omega) only [↓s_nil, ↓s_cons, ↓s_tnx, ↓s_trt, ↓s_tbk, ↓s_tct, ↓s_set, ↓s_par', ↓s_tset', ↓s_setix', ↓s_ife, ↓s_for, ↓s_ret, ↓s_retN, ↓s_expr, ↓s_pass, ↓s_brk, ↓s_cont, ↓w_int, ↓w_bl, ↓w_non, ↓w_str, ↓w_loc, ↓w_bin, ↓w_cmp, ↓w_chain, ↓w_and, ↓w_or, ↓w_not, ↓w_neg, ↓w_ite, ↓w_tup', ↓w_lst', ↓w_ix, ↓w_slice, ↓w_o0, ↓w_o1, ↓w_call, ↓w_callk, ↓w_bi, ↓w_isi, ↓w_app, ↓w_lc, ↓w_nil, ↓w_cons, ↓t_and, ↓t_or, ↓t_not, ↓t_tru, ↓i_over', ↓i_rng1', ↓i_rng2', ↓i_rng3', ↓i_zip', ↓i_enum', ↓wp_ok, ↓wp_next, ↓wp_ret, ↓wp_brk, ↓wp_cont, ↓at_z, ↓at_s, ↓onB_bl, ↓onI_int, ↓onC_cell, ↓onT_bl, ↓onT_non, ↓onT_cell', ↓onT_tup, ↓br_t, ↓br_f, ↓if_t, ↓onO_some, ↓itO_cell, ↓itO_tup, ↓itO_frz, seq_cell, seq_frz, watch_cell, watch_frz, List.set_cons_zero, List.set_cons_succ, List.map_cons, List.map_nil, List.cons_append, List.nil_append, List.append_nil, List.replicate_succ, List.replicate_zero, asgT, asgTs, Option.some.injEq, exists_eq_left', exists_eq_left, l_add, l_sub, ↓l_mul, ↓l_fdiv, ↓l_mod, ↓l_pow, ↓l_lt, ↓l_le, ↓l_gt, ↓l_ge, ↓l_eqI, ↓l_neI, ↓l_eqS, ↓l_neS, ↓l_isN, ↓l_isnN, ↓l_cat, ↓l_rep, isi_non_int, isi_non_bool, isi_non_str, isi_non_list, isi_non_tuple, isi_bl_int, isi_bl_bool, isi_bl_str, isi_bl_list, isi_bl_tuple, isi_int_int, isi_int_bool, isi_int_str, isi_int_list, isi_int_tuple, isi_str_int, isi_str_bool, isi_str_str, isi_str_list, isi_str_tuple, isi_tup_int, isi_tup_bool, isi_tup_str, isi_tup_list, isi_tup_tuple, isi_cell_int, isi_cell_bool, isi_cell_str, isi_cell_list, isi_cell_tuple, isi_frz_int, isi_frz_bool, isi_frz_str, isi_frz_list, isi_frz_tuple, ↓l_len, ↓l_lenT, ↓l_lenF, ↓l_abs, ↓l_max, ↓l_min, ↓l_toInt, ↓l_toIntB, ↓l_list, ↓l_tupT, ↓l_tupC, ↓l_sum, ↓l_all, ↓l_reprC, ↓l_reprT, Bool.not_true, Bool.not_false, List.getD_cons_zero, List.getD_cons_succ, ↓l_ixc, ↓l_ixt, ↓l_ixf, atI_0, atI_1, atI_2, atI_3, atI_end, ↓l_app, ↓l_slice, ixN_0, ixN_1, ixN_2, ↓tvL, wipeE, List.length_cons, List.length_nil, Nat.reduceAdd, Nat.reduceSub, Nat.reduceLeDiff, List.isEmpty_nil, List.isEmpty_cons, Int.reduceToNat, Int.reducePow, Int.reduceAdd, Int.reduceSub, Int.reduceMul, Int.reduceNeg, Int.reduceLT, Int.reduceLE, Bool.true_and, Bool.and_true, asInts_map, asBools_map, decide_true, decide_false, ↓onT_int, ↓onT_lst, ↓w_frz, ↓w_fls, ↓w_fcall, ↓w_fcallk, ↓fz_same, ↓fz_nw, isP_int, isP_bl, isP_str, isP_non, isP_frz, isP_cell, Bool.false_and, Bool.and_false, isP_lst, isP_tup, isPL_nil, isPL_cons, isPL_ints, isPL_bls, ↓l_lenL, ↓l_listL, ↓l_listT, ↓l_listF, ↓l_tupL, ↓l_sumL, ↓l_allL, ↓l_reprL, ↓l_maxL, ↓l_minL, ↓l_reprI, cutD_map, ↓l_ixl, ↓l_catL, ↓l_catC, ↓l_sliceL, ↓l_sliceF, ↓itO_lst, seq_lst, watch_lst, isi_lst_int, isi_lst_bool, isi_lst_str, isi_lst_list, isi_lst_tuple, sn8_vL, ↓l_eqL, ↓l_neL, decide_self, *] at this)
local macro_rules | `(tactic| walk_at "line") => `(tactic| (first | (with_reducible apply decide_eq_true; exact Nat.le_trans (by first | (simp only [List.length_cons, List.length_nil, List.length_append, List.length_map, List.length_range]; omega) | omega) (by decide : 100000 ≤ sizeLine)) | (with_reducible apply decide_eq_true; exact Nat.lt_of_le_of_lt (by first | (simp only [List.length_cons, List.length_nil, List.length_append, List.length_map, List.length_range]; omega) | omega) (by decide : 100000 < sizeLine)) | (with_reducible exact line_le (by omega)) | (with_reducible exact line_lt (by omega))))
local macro_rules | `(tactic| walk_at "num") => `(tactic| (first | (simp only [big, wid, small, Bool.and_eq_true, decide_eq_true_eq]; omega) | (simp only [big, wid, small, Bool.and_eq_true, decide_eq_true_eq]; refine ⟨?_, ?_⟩ <;> omega)))
local macro_rules | `(tactic| walk_at "go") => `(tactic| first | walk_at "run" | (with_reducible refine nw_mk fun p h2 e1 e2 e3 e4 => ?_) | ((with_reducible refine up_mk ?up fun h2 e1 e2 e3 => ?_); (case up => omega)) | ((with_reducible refine if_mk ?gu ?_); (case gu => first | walk_at "num" | walk_at "line")))
local macro_rules | `(tactic| walk_at "goc") => `(tactic| first | walk_at "run" | ((with_reducible apply nw_cs); (case hc => assumption); intro p h2 e1 e2 e3 e4 e5 e6 e7) | ((with_reducible apply up_cs); (case hc => assumption); (case up => omega); (case ge => omega); intro h2 e1 e2 e3 e4) | ((with_reducible apply dr_cs); (case hT => assumption); (case hc => assumption); (case hm => omega); (case hm2 => omega); (case hk => omega); intro r h2 e1 e2 e3 e4 e5) | ((with_reducible refine if_mk ?gu ?_); (case gu => first | walk_at "num" | walk_at "line")))
/-- the sums of the plays -/
def sumsL (a : Int) : List Int → List Int
  | [] => []
  | p :: ps => (a + p) :: sumsL (a + p) ps
theorem sumsL_snoc : ∀ (ps : List Int) (a p : Int), sumsL a (ps ++ [p]) = sumsL a ps ++ [(sumsL a ps).getLastD a + p]
  | [], _, _ => rfl
  | q :: ps, a, p => by
    simp only [List.cons_append, sumsL, sumsL_snoc ps]
    cases h : sumsL (a + q) ps with
    | nil => simp
    | cons b bs =>
      simp only [List.cons_append, List.cons.injEq, true_and, List.getLastD_cons]
theorem sumsL_len : ∀ (ps : List Int) (a : Int), (sumsL a ps).length = ps.length
  | [], _ => rfl
  | q :: ps, a => by simp [sumsL, sumsL_len ps]
theorem sumsL_le {m : Int} : ∀ (ps : List Int) (a : Int), (∀ p ∈ ps, 0 ≤ p ∧ p ≤ m) → ∀ x ∈ sumsL a ps, a ≤ x ∧ x ≤ a + m * ps.length
  | [], _, _, x, hx => by cases hx
  | q :: ps, a, h, x, hx => by
    have hq := h q (by simp)
    have e : m * ((q :: ps).length : Nat) = m * (ps.length : Int) + m := by
      rw [List.length_cons]; push_cast; rw [Int.mul_add, Int.mul_one]
    rcases List.mem_cons.mp hx with rfl | hx
    · have : 0 ≤ m * (ps.length : Int) := Int.mul_nonneg (by omega) (by omega)
      omega
    · have := sumsL_le ps (a + q) (fun p hp => h p (List.mem_cons_of_mem _ hp)) x hx
      omega
theorem cut1 {α : Type} (x : α) (xs : List α) : Dl.cutD (x :: xs) (some 1) none = xs := by
  have e : Dl.cutD (x :: xs) (some 1) none = List.take xs.length xs := by
    unfold Dl.cutD HT.sIx
    simp
  rw [e, List.take_length]

structure TCo (T : Str → Option Fn) : Prop where
  coil : T "_law_coil" = some ir_law_coil
  draw : T "_law_draw" = some ir_law_draw_2
  pack : T "_law_pack" = some ir_law_pack
  stand : T "_law_stand" = some ir_law_stand
section
variable {T : Str → Option Fn} {k : Nat} {h : Mm} {Q : Vl → Mm → Prop}
theorem draw_coil (hT : T "_law_draw" = some ir_law_draw_2) : DrawSp T "_law_draw" := ⟨fun {k h Q c j m} hc hm hm2 hk q => by
  have hl := hc.lt
  obtain ⟨a, b, n, hc, ha, hb, hb2, hn, hn2⟩ := hc
  refine call_wp hT rfl (by decide) ?_
  simp only [ir_law_draw_2]
  walk_at "run"
  refine br_mk (fun hp => ?_) (fun hp => ?_)
  all_goals try walk_at "run"
  · refine if_mk (by simp only [big, Bool.and_eq_true, decide_eq_true_eq]; omega) ?_
    walk_at "run"
    refine up_mk hl fun h2 e1 e2 e3 => ?_
    exact q _ h2 (Int.emod_nonneg _ (by omega)) (Int.emod_lt_of_pos _ hm) e1 ⟨_, b, n, e2, Int.ediv_nonneg ha (by omega), hb, hb2, hn, by omega⟩ e3
  · refine up_mk hl fun h2 e1 e2 e3 => ?_
    have fin : ∀ x : Int, Q (.int (x % m)) h2 := fun x => q _ h2 (Int.emod_nonneg _ (by omega)) (Int.emod_lt_of_pos _ hm) e1 ⟨a, b, n + 1, e2, ha, hb, hb2, by omega, by omega⟩ e3
    clear q
    repeat walk_at "go"
    all_goals exact fin _⟩
theorem sp_coil {ns : List Int} {i : Int} (hT : T "_law_coil" = some ir_law_coil) (h0 : 0 ≤ i) (h1 : i ≤ 100) (q : ∀ (c : Nat) (h' : Mm), h.length = c → h'.length = c + 1 → CoilAt h' c 0 → (∀ m : Nat, m < c → h'[m]? = h[m]?) → Q (.cell c) h') : (call T (k + 1) "_law_coil" [.frz ns, .int i] h).wp Q := by
  refine call_wp hT rfl (by decide) ?_
  simp only [ir_law_coil]
  have fin : ∀ (x v : Int) (p : Nat) (h2 : Mm), h.length = p → h2.length = p + 1 → h2[p]? = some [.int (max 0 x), .int (v % 10000000000000000000000013 + 60013 * (i + 1)), .int 0] → (∀ m : Nat, m < p → h2[m]? = h[m]?) → Q (.cell p) h2 := fun x v p h2 e1 e2 e3 e4 => by
    have m1 := Int.emod_nonneg v (show (10000000000000000000000013 : Int) ≠ 0 by decide)
    have m2 := Int.emod_lt_of_pos v (show (0 : Int) < 10000000000000000000000013 by decide)
    exact q p h2 e1 e2 ⟨_, _, _, e3, by omega, by omega, by omega, by omega, by omega⟩ e4
  clear q
  walk_at "run"
  refine br_mk (fun hp => ?_) (fun hp => ?_)
  all_goals try walk_at "run"
  · rw [decide_eq_true_eq] at hp
    rw [at_lit h0 hp]
    repeat walk_at "go"
    all_goals (rename_i p h2 e1 e2 e3 e4; exact fin _ _ p h2 e1 e2 e3 e4)
  · repeat walk_at "go"
    all_goals (rename_i p h2 e1 e2 e3 e4; exact fin (_ : Int) 0 p h2 e1 e2 e3 e4)
theorem dr_pack {c : Nat} {mo fa : Int} (t : TCo T) (h1 : 1 ≤ mo) (h2 : mo ≤ 8) (h3 : 1 ≤ fa) (h4 : fa ≤ 10 ^ 30) :
    Dr T (k + 2) "_law_pack" [.cell c, .int mo, .int fa] c 100 fun y => ∃ (r : Int) (ps : List Int), y = vP r ps ∧ 2 ≤ r ∧ r ≤ 10 ^ 31 ∧ Plays ps ∧ ∀ x ∈ ps, x ≤ 10 ^ 32 := dr_mk t.pack rfl (by decide) fun h j cs hj => by
  have hT := draw_coil t.draw
  simp only [ir_law_pack]
  repeat walk_at "goc"
  rename_i r1 _ _ _ _ _ _ r2 _ _ _ _ _ _ r3 _ _ _ _ _ _
  refine ix_menu [2, 3, 2 + r1, 2 + r2] (fun v => 2 ≤ v ∧ v ≤ 10 ^ 31) (by omega) (by simp; omega) (by simp; omega) fun circle hc => ?_
  repeat walk_at "goc"
  rename_i p h5 f1 f2 f3 f4 f5 f6 f7 r6 h6 g1 g2 g3 g4 g5
  have f3' : h6[p]? = some [] := by rw [g5 p (by omega)]; exact f3
  clear f3
  refine for_rng (fun i ρ h' => ∃ (ps : List Int) (a b : Option Vl), ρ = [some (.cell c), some (.int mo), some (.int fa), some (.int circle), some (.cell p), a, b] ∧ ps.length = i ∧ (∀ x ∈ ps, 0 ≤ x ∧ x ≤ 10 ^ 32) ∧ h'[p]? = some (vI ps) ∧ p < h'.length ∧ CS h h' c (j + 4 + 3 * i)) ?_ ?_ ?_
  · exact ⟨[], none, none, rfl, rfl, by simp, f3', by omega, g4⟩
  · rintro i ρ h' hi ⟨ps, a, b, rfl, l, bd, d1, d2, d3⟩
    have tl : (vI ps).length = i := by rw [List.length_map]; exact l
    refine ⟨_, rfl, ?_⟩
    obtain ⟨c1, c2⟩ := hc
    repeat walk_at "goc"
    rename_i s1 _ _ _ _ _ _ s2 _ _ _ _ _ _ s3 _ _ _ _ _ _
    refine ix_menu [0, circle - 1, circle, s1, s2] (fun v => 0 ≤ v ∧ v ≤ 10 ^ 32) (by omega) (by simp; omega) (by simp; omega) fun v hv => ?_
    repeat walk_at "goc"
    rename_i hz z1 z2 z3 z4
    refine ⟨ps ++ [v], some (.int i), some (.lst (vI [0, circle - 1, circle, s1, s2])), rfl, by simp [l], fun x hx => ?_, by simp [vI], by first | trivial | omega, z4.le (by omega)⟩
    rcases List.mem_append.mp hx with hx | hx
    · exact bd x hx
    · rw [List.mem_singleton.mp hx]; exact hv
  · rintro ρ h' ⟨ps, a, b, rfl, l, bd, d1, d2, d3⟩
    repeat walk_at "goc"
    exact dr_endT f7 d1 isPL_ints ⟨circle, ps, rfl, hc.1, hc.2, ⟨by omega, by omega, fun x hx => (bd x hx).1⟩, fun x hx => (bd x hx).2⟩ d3 (by omega)
theorem dr_stand {c : Nat} {r fa : Int} {ps : List Int} (t : TCo T) (hP : Plays ps) (hB : ∀ x ∈ ps, x ≤ 10 ^ 32) (h3 : 1 ≤ fa) (h4 : fa ≤ 10 ^ 33) :
    Dr T (k + 2) "_law_stand" [.cell c, vP r ps, .int fa] c 100 fun y => ∃ (d : Int) (xs : List Int), y = vP d xs ∧ Stand d ps xs ∧ -fa ≤ d ∧ d ≤ fa := dr_mk t.stand rfl (by decide) fun h j cs hj => by
  have hT := draw_coil t.draw
  simp only [ir_law_stand]
  repeat walk_at "goc"
  rename_i r1 h1 a1 a2 a3 a4 a5 p h2 b1 b2 b3 b4 b5 b6 b7
  refine for_map _ (fun us ρ h' => ∃ (xs : List Int) (a : Option Vl), ρ = [some (.cell c), some (vP r ps), some (.int fa), some (.int (r1 - fa)), some (.cell p), some (.int (xs.getLastD (r1 - fa))), a] ∧ us.length ≤ 8 ∧ Stand (r1 - fa) us xs ∧ h'[p]? = some (vI xs) ∧ p < h'.length ∧ CS h h' c (j + 1 + 2 * us.length)) ?_ ?_ ?_
  · exact ⟨[], none, rfl, by simp, trivial, b3, by omega, b6⟩
  · rintro us u ws ρ h' e ⟨xs, a, rfl, l, s, d1, d2, d3⟩
    have hm := hP.most
    have len := congrArg List.length e
    simp only [List.length_append, List.length_cons] at len
    have u0 : 0 ≤ u := hP.nn u (by rw [e]; simp)
    have u1 : u ≤ 10 ^ 32 := hB u (by rw [e]; simp)
    clear e
    have lx := s.len
    refine ⟨_, rfl, ?_⟩
    have d5 : (vI xs).length = us.length := by simp [lx]
    have snoc := fun x => s.snoc (p := u) (x := x)
    generalize hy : xs.getLastD (r1 - fa) = ah at snoc
    repeat walk_at "goc"
    rename_i s1 _ _ _ _ _ _ s3 _ _ _ _ _ _
    refine ix_menu [0, u, s1] (fun v => 0 ≤ v ∧ v ≤ u) (by omega) (by simp; omega) (by simp; omega) fun v hv => ?_
    repeat walk_at "goc"
    rename_i hz z1 z2 z3 z4
    exact ⟨xs ++ [ah - v], some (.int u), by rw [getLastD_snoc], by simp; omega, snoc _ (by omega) (by omega), by simp [vI], by first | trivial | omega, by rw [List.length_append, List.length_singleton]; exact z4.le (by omega)⟩
  · rintro ρ h' ⟨xs, a, rfl, l, s, d1, d2, d3⟩
    repeat walk_at "goc"
    exact dr_endT b7 d1 isPL_ints ⟨_, xs, rfl, s, by omega, by omega⟩ d3 (by omega)
theorem pu_reaches {r : Int} {ps : List Int} (hT : T "_law_reaches" = some ir_law_reaches_1) (hP : Plays ps) : Pu T (k + 1) "_law_reaches" [vP r ps] (vL (sumsL 0 ps)) := pu_mk hT rfl (by decide) fun h => by
  simp only [ir_law_reaches_1]
  repeat walk_at "go"
  rename_i p h2 e1 e2 e3 e4
  subst e1
  refine for_map _ (fun us ρ h' => ∃ (a : Option Vl), ρ = [some (vP r ps), some (.cell h.length), a] ∧ us.length ≤ 8 ∧ Ext h h' ∧ h'[h.length]? = some (vI (0 :: sumsL 0 us)) ∧ h.length < h'.length) ?_ ?_ ?_
  · exact ⟨none, rfl, by simp, .new rfl e2 e4, e3, by omega⟩
  · rintro us u ws ρ h' e ⟨a, rfl, l, x', d1, d2⟩
    have hm := hP.most
    have len := congrArg List.length e
    simp only [List.length_append, List.length_cons] at len
    clear e
    refine ⟨_, rfl, ?_⟩
    have d4 : atI (vI (0 :: sumsL 0 us)) (-1) = some (.int ((sumsL 0 us).getLastD 0)) := by
      rcases List.eq_nil_or_concat (sumsL 0 us) with z | ⟨zs, z, e⟩
      · rw [z]; rfl
      · rw [e, List.concat_eq_append]
        show atI (vI ((0 :: zs) ++ [z])) (-1) = _
        rw [vI, List.map_append]
        show atI (_ ++ [Vl.int z]) (-1) = _
        rw [atI_end]; simp
    have d5 : (vI (0 :: sumsL 0 us)).length = us.length + 1 := by simp [sumsL_len]
    have nx : vI (0 :: sumsL 0 us) ++ [.int ((sumsL 0 us).getLastD 0 + u)] = vI (0 :: sumsL 0 (us ++ [u])) := by rw [sumsL_snoc]; simp [vI]
    generalize vI (0 :: sumsL 0 us) = ys at d1 d4 d5 nx
    repeat walk_at "go"
    rename_i hz z1 z2 z3
    exact ⟨some (.int u), rfl, by simp; omega, x'.up (by omega) z1 z3, by first | exact z2 | trivial, by first | trivial | omega⟩
  · rintro ρ h' ⟨a, rfl, l, x, d1, d2⟩
    have e5 : Dl.cutD (vI (0 :: sumsL 0 ps)) (some 1) none = vI (sumsL 0 ps) := cut1 _ _
    generalize vI (0 :: sumsL 0 ps) = ys at d1 e5
    repeat walk_at "go"
    exact pu_endX x isP_lst
end
end IR

set_option Elab.async false
set_option linter.all false
set_option maxRecDepth 100000
set_option maxHeartbeats 4000000
namespace IR
open PySem PySem.Spec PyProof.Rows L2 Dl
local macro_rules | `(tactic| walk_at "run") => `(tactic| simp (disch := omega) only [↓s_nil, ↓s_cons, ↓s_tnx, ↓s_trt, ↓s_tbk, ↓s_tct, ↓s_set, ↓s_par', ↓s_tset', ↓s_setix', ↓s_ife, ↓s_for, ↓s_ret, ↓s_retN, ↓s_expr, ↓s_pass, ↓s_brk, ↓s_cont, ↓w_int, ↓w_bl, ↓w_non, ↓w_str, ↓w_loc, ↓w_bin, ↓w_cmp, ↓w_chain, ↓w_and, ↓w_or, ↓w_not, ↓w_neg, ↓w_ite, ↓w_tup', ↓w_lst', ↓w_ix, ↓w_slice, ↓w_o0, ↓w_o1, ↓w_call, ↓w_callk, ↓w_bi, ↓w_isi, ↓w_app, ↓w_lc, ↓w_nil, ↓w_cons, ↓t_and, ↓t_or, ↓t_not, ↓t_tru, ↓i_over', ↓i_rng1', ↓i_rng2', ↓i_rng3', ↓i_zip', ↓i_enum', ↓wp_ok, ↓wp_next, ↓wp_ret, ↓wp_brk, ↓wp_cont, ↓at_z, ↓at_s, ↓onB_bl, ↓onI_int, ↓onC_cell, ↓onT_bl, ↓onT_non, ↓onT_cell', ↓onT_tup, ↓br_t, ↓br_f, ↓if_t, ↓onO_some, ↓itO_cell, ↓itO_tup, ↓itO_frz, seq_cell, seq_frz, watch_cell, watch_frz, List.set_cons_zero, List.set_cons_succ, List.map_cons, List.map_nil, List.cons_append, List.nil_append, List.append_nil, List.replicate_succ, List.replicate_zero, asgT, asgTs, Option.some.injEq, exists_eq_left', exists_eq_left, l_add, l_sub, ↓l_mul, ↓l_fdiv, ↓l_mod, ↓l_pow, ↓l_lt, ↓l_le, ↓l_gt, ↓l_ge, ↓l_eqI, ↓l_neI, ↓l_eqS, ↓l_neS, ↓l_isN, ↓l_isnN, ↓l_cat, ↓l_rep, isi_non_int, isi_non_bool, isi_non_str, isi_non_list, isi_non_tuple, isi_bl_int, isi_bl_bool, isi_bl_str, isi_bl_list, isi_bl_tuple, isi_int_int, isi_int_bool, isi_int_str, isi_int_list, isi_int_tuple, isi_str_int, isi_str_bool, isi_str_str, isi_str_list, isi_str_tuple, isi_tup_int, isi_tup_bool, isi_tup_str, isi_tup_list, isi_tup_tuple, isi_cell_int, isi_cell_bool, isi_cell_str, isi_cell_list, isi_cell_tuple, isi_frz_int, isi_frz_bool, isi_frz_str, isi_frz_list, isi_frz_tuple, ↓l_len, ↓l_lenT, ↓l_lenF, ↓l_abs, ↓l_max, ↓l_min, ↓l_toInt, ↓l_toIntB, ↓l_list, ↓l_tupT, ↓l_tupC, ↓l_sum, ↓l_all, ↓l_reprC, ↓l_reprT, Bool.not_true, Bool.not_false, List.getD_cons_zero, List.getD_cons_succ, ↓l_ixc, ↓l_ixt, ↓l_ixf, atI_0, atI_1, atI_2, atI_3, atI_end, ↓l_app, ↓l_slice, ixN_0, ixN_1, ixN_2, ↓tvL, wipeE, List.length_cons, List.length_nil, Nat.reduceAdd, Nat.reduceSub, Nat.reduceLeDiff, List.isEmpty_nil, List.isEmpty_cons, Int.reduceToNat, Int.reducePow, Int.reduceAdd, Int.reduceSub, Int.reduceMul, Int.reduceNeg, Int.reduceLT, Int.reduceLE, Bool.true_and, Bool.and_true, asInts_map, asBools_map, decide_true, decide_false, ↓onT_int, ↓onT_lst, ↓w_frz, ↓w_fls, ↓w_fcall, ↓w_fcallk, ↓fz_same, ↓fz_nw, isP_int, isP_bl, isP_str, isP_non, isP_frz, isP_cell, Bool.false_and, Bool.and_false, isP_lst, isP_tup, isPL_nil, isPL_cons, isPL_ints, isPL_bls, ↓l_lenL, ↓l_listL, ↓l_listT, ↓l_listF, ↓l_tupL, ↓l_sumL, ↓l_allL, ↓l_reprL, ↓l_maxL, ↓l_minL, ↓l_reprI, cutD_map, ↓l_ixl, ↓l_catL, ↓l_catC, ↓l_sliceL, ↓l_sliceF, ↓itO_lst, seq_lst, watch_lst, isi_lst_int, isi_lst_bool, isi_lst_str, isi_lst_list, isi_lst_tuple, sn8_vL, ↓l_eqL, ↓l_neL, decide_self, *])
local macro_rules | `(tactic| walk_at "runh") => `(tactic| simp (disch := omega) only [↓s_nil, ↓s_cons, ↓s_tnx, ↓s_trt, ↓s_tbk, ↓s_tct, ↓s_set, ↓s_par', ↓s_tset', ↓s_setix', ↓s_ife, ↓s_for, ↓s_ret, ↓s_retN, ↓s_expr, ↓s_pass, ↓s_brk, ↓s_cont, ↓w_int, ↓w_bl, ↓w_non, ↓w_str, ↓w_loc, ↓w_bin, ↓w_cmp, ↓w_chain, ↓w_and, ↓w_or, ↓w_not, ↓w_neg, ↓w_ite, ↓w_tup', ↓w_lst', ↓w_ix, ↓w_slice, ↓w_o0, ↓w_o1, ↓w_call, ↓w_callk, ↓w_bi, ↓w_isi, ↓w_app, ↓w_lc, ↓w_nil, ↓w_cons, ↓t_and, ↓t_or, ↓t_not, ↓t_tru, ↓i_over', ↓i_rng1', ↓i_rng2', ↓i_rng3', ↓i_zip', ↓i_enum', ↓wp_ok, ↓wp_next, ↓wp_ret, ↓wp_brk, ↓wp_cont, ↓at_z, ↓at_s, ↓onB_bl, ↓onI_int, ↓onC_cell, ↓onT_bl, ↓onT_non, ↓onT_cell', ↓onT_tup, ↓br_t, ↓br_f, ↓if_t, ↓onO_some, ↓itO_cell, ↓itO_tup, ↓itO_frz, seq_cell, seq_frz, watch_cell, watch_frz, List.set_cons_zero, List.set_cons_succ, List.map_cons, List.map_nil, List.cons_append, List.nil_append, List.append_nil, List.replicate_succ, List.replicate_zero, asgT, asgTs, Option.some.injEq, exists_eq_left', exists_eq_left, l_add, l_sub, ↓l_mul, ↓l_fdiv, ↓l_mod, ↓l_pow, ↓l_lt, ↓l_le, ↓l_gt, ↓l_ge, ↓l_eqI, ↓l_neI, ↓l_eqS, ↓l_neS, ↓l_isN, ↓l_isnN, ↓l_cat, ↓l_rep, isi_non_int, isi_non_bool, isi_non_str, isi_non_list, isi_non_tuple, isi_bl_int, isi_bl_bool, isi_bl_str, isi_bl_list, isi_bl_tuple, isi_int_int, isi_int_bool, isi_int_str, isi_int_list, isi_int_tuple, isi_str_int, isi_str_bool, isi_str_str, isi_str_list, isi_str_tuple, isi_tup_int, isi_tup_bool, isi_tup_str, isi_tup_list, isi_tup_tuple, isi_cell_int, isi_cell_bool, isi_cell_str, isi_cell_list, isi_cell_tuple, isi_frz_int, isi_frz_bool, isi_frz_str, isi_frz_list, isi_frz_tuple, ↓l_len, ↓l_lenT, ↓l_lenF, ↓l_abs, ↓l_max, ↓l_min, ↓l_toInt, ↓l_toIntB, ↓l_list, ↓l_tupT, ↓l_tupC, ↓l_sum, ↓l_all, ↓l_reprC, ↓l_reprT, Bool.not_true, Bool.not_false, List.getD_cons_zero, List.getD_cons_succ, ↓l_ixc, ↓l_ixt, ↓l_ixf, atI_0, atI_1, atI_2, atI_3, atI_end, ↓l_app, ↓l_slice, ixN_0, ixN_1, ixN_2, ↓tvL, wipeE, List.length_cons, List.length_nil, Nat.reduceAdd, Nat.reduceSub, Nat.reduceLeDiff, List.isEmpty_nil, List.isEmpty_cons, Int.reduceToNat, Int.reducePow, Int.reduceAdd, Int.reduceSub, Int.reduceMul, Int.reduceNeg, Int.reduceLT, Int.reduceLE, Bool.true_and, Bool.and_true, asInts_map, asBools_map, decide_true, decide_false, ↓onT_int, ↓onT_lst, ↓w_frz, ↓w_fls, ↓w_fcall, ↓w_fcallk, ↓fz_same, ↓fz_nw, isP_int, isP_bl, isP_str, isP_non, isP_frz, isP_cell, Bool.false_and, Bool.and_false, isP_lst, isP_tup, isPL_nil, isPL_cons, isPL_ints, isPL_bls, ↓l_lenL, ↓l_listL, ↓l_listT, ↓l_listF, ↓l_tupL, ↓l_sumL, ↓l_allL, ↓l_reprL, ↓l_maxL, ↓l_minL, ↓l_reprI, cutD_map, ↓l_ixl, ↓l_catL, ↓l_catC, ↓l_sliceL, ↓l_sliceF, ↓itO_lst, seq_lst, watch_lst, isi_lst_int, isi_lst_bool, isi_lst_str, isi_lst_list, isi_lst_tuple, sn8_vL, ↓l_eqL, ↓l_neL, decide_self, *] at this)
local macro_rules | `(tactic| walk_at "line") => `(tactic| (first | (with_reducible apply decide_eq_true; exact Nat.le_trans (by first | (simp only [List.length_cons, List.length_nil, List.length_append, List.length_map, List.length_range]; omega) | omega) (by decide : 100000 ≤ sizeLine)) | (with_reducible apply decide_eq_true; exact Nat.lt_of_le_of_lt (by first | (simp only [List.length_cons, List.length_nil, List.length_append, List.length_map, List.length_range]; omega) | omega) (by decide : 100000 < sizeLine)) | (with_reducible exact line_le (by omega)) | (with_reducible exact line_lt (by omega))))
local macro_rules | `(tactic| walk_at "num") => `(tactic| (first | (simp only [big, wid, small, Bool.and_eq_true, decide_eq_true_eq]; omega) | (simp only [big, wid, small, Bool.and_eq_true, decide_eq_true_eq]; refine ⟨?_, ?_⟩ <;> omega)))
local macro_rules | `(tactic| walk_at "go") => `(tactic| first | walk_at "run" | (with_reducible refine nw_mk fun p h2 e1 e2 e3 e4 => ?_) | ((with_reducible refine up_mk ?up fun h2 e1 e2 e3 => ?_); (case up => omega)) | ((with_reducible refine if_mk ?gu ?_); (case gu => first | walk_at "num" | walk_at "line")))
local macro_rules | `(tactic| walk_at "goc") => `(tactic| first | walk_at "run" | ((with_reducible apply nw_cs); (case hc => assumption); intro p h2 e1 e2 e3 e4 e5 e6 e7) | ((with_reducible apply up_cs); (case hc => assumption); (case up => omega); (case ge => omega); intro h2 e1 e2 e3 e4) | ((with_reducible apply dr_cs); (case hT => assumption); (case hc => assumption); (case hm => omega); (case hm2 => omega); (case hk => omega); intro r h2 e1 e2 e3 e4 e5) | ((with_reducible refine if_mk ?gu ?_); (case gu => first | walk_at "num" | walk_at "line")))
/-- a state with its list in a cell -/
abbrev vQ (d : Int) (p : Nat) : Vl := .tup [.int d, .cell p]
inductive AllAt (h : Mm) : List Nat → List Stt → Prop
  | nil : AllAt h [] []
  | cons {p : Nat} {s : Stt} {as : List Nat} {ss : List Stt} : h[p]? = some (vI s.2) → AllAt h as ss → AllAt h (p :: as) (s :: ss)
theorem AllAt.mono {h h' : Mm} : ∀ {as : List Nat} {ss : List Stt}, AllAt h as ss → (∀ p ∈ as, h'[p]? = h[p]?) → AllAt h' as ss
  | _, _, .nil, _ => .nil
  | _, _, .cons a b, k => .cons (by rw [k _ (by simp)]; exact a) (b.mono fun p hp => k p (List.mem_cons_of_mem _ hp))
theorem AllAt.snoc {h : Mm} {p : Nat} {s : Stt} (a : h[p]? = some (vI s.2)) : ∀ {as : List Nat} {ss : List Stt}, AllAt h as ss → AllAt h (as ++ [p]) (ss ++ [s])
  | _, _, .nil => .cons a .nil
  | _, _, .cons b c => .cons b (c.snoc a)
theorem AllAt.len {h : Mm} : ∀ {as : List Nat} {ss : List Stt}, AllAt h as ss → as.length = ss.length
  | _, _, .nil => rfl
  | _, _, .cons _ c => by simp [c.len]
theorem AllAt.lt {h : Mm} : ∀ {as : List Nat} {ss : List Stt}, AllAt h as ss → ∀ p ∈ as, p < h.length
  | _, _, .nil, _, hp => by cases hp
  | _, _, .cons a c, p, hp => by
    rcases List.mem_cons.mp hp with rfl | hp
    · exact lt_of_get a
    · exact c.lt p hp
theorem AllAt.get {h : Mm} : ∀ {as : List Nat} {ss : List Stt} {i : Nat} {s : Stt}, AllAt h as ss → ss[i]? = some s → ∃ p, as[i]? = some p ∧ h[p]? = some (vI s.2)
  | _, _, i, _, .nil, e => by simp at e
  | _, _, 0, _, .cons a _, e => by simp at e; subst e; exact ⟨_, rfl, a⟩
  | _, _, i + 1, _, .cons _ c, e => by
    obtain ⟨p, h1, h2⟩ := c.get (i := i) (by simpa using e)
    exact ⟨p, by simpa using h1, h2⟩
def vTr (as : List Nat) (ss : List Stt) : List Vl := (ss.zip as).map fun z => vQ z.1.1 z.2
theorem vTr_snoc {as : List Nat} {ss : List Stt} {p : Nat} {s : Stt} (h : as.length = ss.length) : vTr (as ++ [p]) (ss ++ [s]) = vTr as ss ++ [vQ s.1 p] := by
  unfold vTr; rw [List.zip_append h.symm]; simp
theorem vTr_len {as : List Nat} {ss : List Stt} (h : as.length = ss.length) : (vTr as ss).length = ss.length := by
  unfold vTr; rw [List.length_map, List.length_zip]; omega
/-- a trail in new cells, each its own, behind q -/
structure Tr (lo0 q0 : Nat) (h : Mm) (as : List Nat) (ss : List Stt) : Prop where
  lo : lo0 ≤ q0
  q : h[q0]? = some (vTr as ss)
  at_ : AllAt h as ss
  up : ∀ p ∈ as, q0 < p
  nd : as.Pairwise (· < ·)
theorem sn_st {n : Nat} {h : Mm} {c : Nat} {d : Int} {xs : List Int} (e : h[c]? = some (vI xs)) : snap (n + 2) h (vQ d c) = some (dSt (d, xs)) :=
  sn_tup (snL_cons sn_int (snL_cons (sn_cell e snL_ints) snL_nil))
theorem snL_tr {n : Nat} {h : Mm} : ∀ {as : List Nat} {ss : List Stt}, AllAt h as ss → snapL (snap (n + 2) h) (vTr as ss) = some (ss.map dSt)
  | _, _, .nil => rfl
  | _, _, .cons (s := s) a b => by
    show snapL _ (vQ _ _ :: vTr _ _) = _
    exact snL_cons (sn_st a) (snL_tr b)
theorem sn_tr {n lo pq : Nat} {h : Mm} {as : List Nat} {ss : List Stt} (t : Tr lo pq h as ss) : snap (n + 3) h (.cell pq) = some (.list (ss.map dSt)) := sn_cell t.q (snL_tr t.at_)
theorem Tr.last {lo pq : Nat} {h : Mm} {as : List Nat} {ps ts : List Int} {s : Stt} (t : Tr lo pq h as (trailS ps s ts)) (hn : ts ≠ []) : ∃ pl, atI (vTr as (trailS ps s ts)) (-1) = some (vQ (endS ps s ts).1 pl) ∧ h[pl]? = some (vI (endS ps s ts).2) ∧ pl ∈ as := by
  rcases List.eq_nil_or_concat ts with e | ⟨us, u, e⟩
  · exact absurd e hn
  · rw [List.concat_eq_append] at e
    subst e
    rw [trailS_snoc, ← endS_snoc] at t ⊢
    obtain ⟨as', pl, ea⟩ : ∃ as' pl, as = as' ++ [pl] := by
      rcases List.eq_nil_or_concat as with z | ⟨as', pl, z⟩
      · have := t.at_.len; rw [z] at this; simp at this
      · exact ⟨as', pl, by rw [z, List.concat_eq_append]⟩
    subst ea
    have la : as'.length = (trailS ps s us).length := by have := t.at_.len; simpa using this
    obtain ⟨p', g1, g2⟩ := t.at_.get (i := as'.length) (s := endS ps s (us ++ [u])) (by rw [la]; simp)
    have g3 : p' = pl := by simpa using g1.symm
    subst g3
    exact ⟨p', by rw [vTr_snoc la]; exact atI_end, g2, by simp⟩
theorem vTr_at {h : Mm} : ∀ {as : List Nat} {ss : List Stt} {i : Nat} {x : Vl}, AllAt h as ss → (vTr as ss)[i]? = some x → ∃ s p, ss[i]? = some s ∧ as[i]? = some p ∧ x = vQ s.1 p ∧ h[p]? = some (vI s.2)
  | _, _, i, x, .nil, e => by simp [vTr] at e
  | _, _, 0, x, .cons (p := p) (s := s) a _, e => by
    have e' : some (vQ s.1 p) = some x := e
    cases e'
    exact ⟨s, p, rfl, rfl, rfl, a⟩
  | _, _, i + 1, x, .cons (p := p) (s := s) (as := as) (ss := ss) _ b, e => by
    have e' : (vTr as ss)[i]? = some x := e
    obtain ⟨s', p', h1, h2, h3, h4⟩ := vTr_at b e'
    exact ⟨s', p', by simpa using h1, by simpa using h2, h3, h4⟩
structure T05 (T : Str → Option Fn) : Prop extends TLk T, TCo T where
  turn : T "is_turn" = some ir_is_turn
  places : T "are_places" = some ir_are_places
  state : T "check_state" = some ir_check_state
  turns : T "check_turns" = some ir_check_turns
  once : T "_turned_once" = some ir_turned_once
  trail : T "state_trail" = some ir_state_trail_1
  turned : T "turned_state" = some ir_turned_state_3
  reaches : T "_law_reaches" = some ir_law_reaches_1
  swings : T "_law_swings" = some ir_law_swings
  lturned : T "_law_turned" = some ir_law_turned
  parted : T "_law_parted" = some ir_law_parted
  right : T "_law_right" = some ir_law_right_4
  law : T "law" = some ir_law_5
section
variable {T : Str → Option Fn} {k : Nat} {h : Mm} {Q : Vl → Mm → Prop}
/-- a state's list: frozen, or in a cell -/
def IsL (h : Mm) (X : Vl) (xs : List Int) : Prop := X = vL xs ∨ ∃ p, X = .cell p ∧ h[p]? = some (vI xs)
theorem sp_turned_once {r d t : Int} {ps xs : List Int} {X : Vl} (hT : T "_turned_once" = some ir_turned_once) (hX : IsL h X xs) (hl : xs.length = ps.length) (hm : ps.length ≤ 60)
    (q : ∀ (p : Nat) (h' : Mm), Ext h h' → h.length ≤ p → h'[p]? = some (vI (stepS ps (d, xs) t).2) → Q (vQ (stepS ps (d, xs) t).1 p) h') : (call T (k + 1) "_turned_once" [vP r ps, .tup [.int d, X], .int t] h).wp Q := by
  refine call_wp hT rfl (by decide) ?_
  simp only [ir_turned_once]
  have main : ∀ (W : Watch) (p : Nat) (h2 : Mm), h.length = p → h2.length = p + 1 → h2[p]? = some [] → (∀ m : Nat, m < p → h2[m]? = h[m]?) → (∀ h' : Mm, Ext h h' → Still W h') → ∀ D : Sk, (∀ (a b : Option Vl) (h' : Mm), Ext h h' → h.length < h'.length → h'[h.length]? = some (vI (pushL t (d + t) ps xs)) → D.nx [some (vP r ps), some (.tup [.int d, X]), some (.int t), some (.int d), some X, some (.int (d + t)), some (.cell h.length), some (.int (lastL t (d + t) ps xs)), a, b] h') →
      (forV (fun ρ h => exs (call T k) [.set 7 (.ite (.tru (.cmp (.gt) (.loc 2) (.int 0))) (.bi (.max) [.loc 9, .bin (.sub) (.loc 7) (.loc 8)]) (.bi (.min) [.loc 9, .loc 7])), .expr (.app (.loc 6) (.loc 7))] ρ h) (.tup [.nm 8, .nm 9]) W ((ps.zip xs).map fun z => .tup [.int z.1, .int z.2]) [some (vP r ps), some (.tup [.int d, X]), some (.int t), some (.int d), some X, some (.int (d + t)), some (.cell h.length), some (.int (d + t)), none, none] h2).wp D := by
    intro W p h2 e1 e2 e3 e4 hW D fin
    subst e1
    refine for_mapW (α := Int × Int) _ (fun us ρ h' => ∃ (a b : Option Vl), ρ = [some (vP r ps), some (.tup [.int d, X]), some (.int t), some (.int d), some X, some (.int (d + t)), some (.cell h.length), some (.int (lastL t (d + t) (us.map (·.1)) (us.map (·.2)))), a, b] ∧ Ext h h' ∧ h.length < h'.length ∧ h'[h.length]? = some (vI (pushL t (d + t) (us.map (·.1)) (us.map (·.2)))) ∧ us.length ≤ 60)
      ⟨none, none, by simp [lastL, pushL], .new rfl e2 e4, by omega, e3, by simp⟩ (fun us ρ h' ⟨a, b, _, x, _⟩ => hW h' x) ?_ ?_
    · rintro us ⟨u, v⟩ ws ρ h' e ⟨a, b, rfl, x, lp, g, hl2⟩
      have len := congrArg List.length e
      simp only [List.length_zip, List.length_append, List.length_cons] at len
      clear e fin
      have snoc := pushL_snoc (t := t) (a := d + t) (ps := us.map (·.1)) (xs := us.map (·.2)) (p := u) (x := v) (by simp)
      have last : lastL t (d + t) (us.map (·.1) ++ [u]) (us.map (·.2) ++ [v]) = if 0 < t then max v (lastL t (d + t) (us.map (·.1)) (us.map (·.2)) - u) else min v (lastL t (d + t) (us.map (·.1)) (us.map (·.2))) := by
        rw [lastL, snoc, getLastD_snoc]
      have plen : (vI (pushL t (d + t) (us.map (·.1)) (us.map (·.2)))).length ≤ 60 := by
        rw [List.length_map, pushL_len' _ _ _ _ (by simp)]; simp; omega
      refine ⟨_, rfl, ?_⟩
      by_cases ht : 0 < t
      · rw [if_pos ht] at snoc last
        repeat walk_at "go"
        rename_i h3 g1 g2 g3
        exact ⟨some (.int u), some (.int v), by simp [last], x.up (by omega) g1 g3, by first | trivial | omega, by simp [snoc, vI], by simp; omega⟩
      · rw [if_neg ht] at snoc last
        repeat walk_at "go"
        rename_i h3 g1 g2 g3
        exact ⟨some (.int u), some (.int v), by simp [last], x.up (by omega) g1 g3, by first | trivial | omega, by simp [snoc, vI], by simp; omega⟩
    · rintro ρ h' ⟨a, b, rfl, x, lp, g, hl2⟩
      rw [List.map_fst_zip (by omega), List.map_snd_zip (by omega)] at g ⊢
      exact fin a b h' x lp g
  have dn : ∀ h' : Mm, Ext h h' → h'[h.length]? = some (vI (pushL t (d + t) ps xs)) → Q (vQ (d + t) h.length) h' := fun h' x g => q h.length h' x (Nat.le_refl _) g
  clear q
  rcases hX with rfl | ⟨p0, rfl, g0⟩
  · repeat walk_at "go"
    rename_i p h2 e1 e2 e3 e4
    subst e1
    rw [zipV_map]
    refine main [] _ h2 rfl e2 e3 e4 (fun _ _ => still_0) _ fun a b h' x lp g => ?_
    clear main
    repeat walk_at "go"
    all_goals exact dn h' x g
  · repeat walk_at "go"
    rename_i p h2 e1 e2 e3 e4
    subst e1
    have g2 : h2[p0]? = some (vI xs) := by rw [e4 p0 (lt_of_get g0)]; exact g0
    repeat walk_at "go"
    rw [zipV_map]
    refine main _ _ h2 rfl e2 e3 e4 (fun h' x => still_1 (x.get g0)) _ fun a b h' x lp g => ?_
    clear main
    repeat walk_at "go"
    all_goals exact dn h' x g
def PuH (T : Str → Option Fn) (k : Nat) (f : Str) (xs : List Vl) (y : Vl) (h : Mm) : Prop := (call T k f xs h).wp fun x h' => PuE h h' x y
theorem puh_use {f : Str} {xs : List Vl} {y : Vl} (q : PuH T k f xs y h) (z : Q y h) : (call T k f xs h).wp fun x h' => Fz h h' x Q :=
  wp_mono q fun x h' w => fz_ext w.2 w.1 z
theorem puh_mk {f : Str} {fn : Fn} {xs : List Vl} {y : Vl} (hT : T f = some fn) (hl : xs.length = fn.ps) (hn : fn.ps ≤ fn.n)
    (hb : (exs (call T k) fn.body (xs.map some ++ List.replicate (fn.n - fn.ps) none) h).wp ⟨fun _ h1 => PuE h h1 .non y, fun x h1 => PuE h h1 x y, fun _ _ => False, fun _ _ => False⟩) : PuH T (k + 1) f xs y h :=
  call_wp hT hl hn hb
theorem IsL.mono {h h' : Mm} {X : Vl} {xs : List Int} (i : IsL h X xs) (x : Ext h h') : IsL h' X xs := by
  rcases i with rfl | ⟨p, rfl, g⟩
  · exact .inl rfl
  · exact .inr ⟨p, rfl, x.get g⟩
theorem pl_are_places {ps xs : List Int} {d : Int} {X : Vl} (hI : T "is_integer" = some ir_is_integer) (hT : T "are_places" = some ir_are_places) (hX : IsL h X xs) (hs : Stand d ps xs) : PuH T (k + 2) "are_places" [vL ps, .int d, X] (.bl true) h := by
  rcases hX with rfl | ⟨p, rfl, g⟩
  · exact pu_are_places hI hT hs h
  · refine puh_mk hT rfl (by decide) ?_
    simp only [ir_are_places]
    have hl := hs.len
    have c1 : ((((vI xs).length : Nat) : Int) == (((vI ps).length : Nat) : Int)) = true := by rw [List.length_map, List.length_map, hl]; simp
    walk_at "run"
    rw [zipV_map]
    refine for_mapW _ (fun us ρ h' => h' = h ∧ ∃ (a b : Option Vl), ρ = [some (vL ps), some (.int d), some (.cell p), some (.int ((us.map (·.2)).getLastD d)), a, b]) ⟨rfl, none, none, rfl⟩ ?_ ?_ ?_
    · rintro us ρ h' ⟨rfl, _⟩; exact still_1 g
    · rintro us ⟨u, v⟩ ws ρ h' e ⟨rfl, a, b, rfl⟩
      obtain ⟨g1, g2⟩ := hs.at e
      clear e
      refine ⟨_, rfl, ?_⟩
      have c2 := decide_eq_true (show (0 : Int) ≤ (us.map (·.2)).getLastD d - v by omega)
      have c3 := decide_eq_true (show (us.map (·.2)).getLastD d - v ≤ u by omega)
      walk_at "run"
      refine pu_use (pu_is_integer hI) ?_
      simp only [vInt]
      walk_at "run"
      exact ⟨trivial, some (.int u), some (.int v), by simp⟩
    · rintro ρ h' ⟨rfl, a, b, rfl⟩
      walk_at "run"
      exact pu_end rfl
theorem pl_check_state {r d : Int} {ps xs : List Int} {X : Vl} (t : T05 T) (hX : IsL h X xs) (hs : Stand d ps xs) : PuH T (k + 3) "check_state" [vP r ps, .tup [.int d, X]] .non h := by
  refine puh_mk t.state rfl (by decide) ?_
  simp only [ir_check_state]
  walk_at "run"
  refine pu_use (pu_is_pair2 (k := k + 1) t.pair) ?_
  walk_at "run"
  refine pu_use (pu_is_integer (k := k + 1) t.int) ?_
  simp only [vInt]
  walk_at "run"
  refine puh_use (pl_are_places (k := k) t.int t.places hX hs) ?_
  walk_at "run"
  exact pu_end rfl
theorem sp_state_trail {r d : Int} {ps xs ts : List Int} {X : Vl} (t : T05 T) (hX : IsL h X xs) (hr : 2 ≤ r) (hP : Plays ps) (hs : Stand d ps xs) (hts : Turns ts)
    (q : ∀ (pq : Nat) (as : List Nat) (h' : Mm), Ext h h' → Tr h.length pq h' as (trailS ps (d, xs) ts) → Q (.cell pq) h') : (call T (k + 5) "state_trail" [vP r ps, .tup [.int d, X], vL ts] h).wp Q := by
  refine call_wp t.trail rfl (by decide) ?_
  simp only [ir_state_trail_1]
  walk_at "run"
  refine pu_use (pu_check_lock (k := k) t.toTLk hr hP) ?_
  walk_at "run"
  refine puh_use (pl_check_state (k := k + 1) t hX hs) ?_
  walk_at "run"
  refine pu_use (pu_check_turns (k := k + 1) t.int t.turn t.turns hts) ?_
  repeat walk_at "go"
  rename_i pq h2 e1 e2 e3 e4
  have x2 : Ext h h2 := .new e1 e2 e4
  subst e1
  have hl := hs.len
  have hm := hP.most
  have h60 := hts.1
  refine for_map _ (fun us ρ h' => ∃ (as : List Nat) (Y : Vl) (a : Option Vl), ρ = [some (vP r ps), some (.tup [.int d, X]), some (vL ts), some (.cell h.length), some (.tup [.int (endS ps (d, xs) us).1, Y]), a] ∧ us.length ≤ 60 ∧
    Ext h h' ∧ h.length < h'.length ∧ IsL h' Y (endS ps (d, xs) us).2 ∧ Tr h.length h.length h' as (trailS ps (d, xs) us))
    ⟨[], X, none, rfl, by simp, x2, by omega, hX.mono x2, ⟨by omega, e3, .nil, by simp, .nil⟩⟩ ?_ ?_
  · rintro us u ws ρ h' e ⟨as, Y, a, rfl, l, x', e5, e6, tr⟩
    have len := congrArg List.length e
    simp only [List.length_append, List.length_cons] at len
    clear e
    refine ⟨_, rfl, ?_⟩
    walk_at "run"
    refine sp_turned_once (k := k + 3) t.once e6 (endS_len ps us (d, xs) hl) (by omega) fun p4 h4 x4 l4 e7 => ?_
    have q4 := x4.get tr.q
    have tl : (vTr as (trailS ps (d, xs) us)).length ≤ 60 := by rw [vTr_len tr.at_.len, trailS_len]; omega
    have y4 := x4.len
    have lo := tr.lo
    have fin : ∀ h5 : Mm, h5.length = h4.length → h5[h.length]? = some (vTr as (trailS ps (d, xs) us) ++ [vQ (stepS ps (endS ps (d, xs) us) u).1 p4]) → (∀ m : Nat, m ≠ h.length → h5[m]? = h4[m]?) → Ext h h5 ∧ h.length < h5.length ∧ IsL h5 (.cell p4) (endS ps (d, xs) (us ++ [u])).2 ∧ Tr h.length h.length h5 (as ++ [p4]) (trailS ps (d, xs) (us ++ [u])) := fun h5 g1 g2 g3 => by
      refine ⟨(x'.trans x4).up tr.lo g1 g3, by omega, .inr ⟨p4, rfl, ?_⟩, ?_⟩
      · rw [endS_snoc, g3 p4 (by omega)]; exact e7
      · rw [trailS_snoc]
        refine ⟨tr.lo, by rw [vTr_snoc tr.at_.len]; exact g2, (tr.at_.mono fun p hp => ?_).snoc (by rw [g3 p4 (by omega)]; exact e7), fun p hp => ?_, ?_⟩
        · have a1 := tr.up p hp
          have a2 := tr.at_.lt p hp
          rw [g3 p (by omega), x4.old p (by omega)]
        · rcases List.mem_append.mp hp with hp | hp
          · exact tr.up p hp
          · rw [List.mem_singleton.mp hp]; omega
        · refine List.pairwise_append.mpr ⟨tr.nd, by simp, fun a ha b hb => ?_⟩
          rw [List.mem_singleton.mp hb]
          have := tr.at_.lt a ha
          omega
    have es : (endS ps (d, xs) (us ++ [u])).1 = (stepS ps (endS ps (d, xs) us) u).1 := by rw [endS_snoc]
    rw [es]
    clear tr e6 e7 x4 es
    generalize stepS ps (endS ps (d, xs) us) u = sn at *
    generalize vTr as (trailS ps (d, xs) us) = vt at *
    repeat walk_at "go"
    rename_i h5 g1 g2 g3
    obtain ⟨f1, f2, f3, f4⟩ := fin h5 g1 g2 g3
    refine ⟨as ++ [p4], .cell p4, some (.int u), rfl, by simp; omega, ?_, ?_, ?_, ?_⟩
    all_goals first | trivial | exact f1 | exact f3 | exact f4 | omega
  · rintro ρ h' ⟨as, Y, a, rfl, l, x', e5, e6, tr⟩
    have fin := q h.length as h' x' tr
    clear q
    repeat walk_at "go"
    all_goals exact fin
theorem sp_turned_state {r d : Int} {ps xs ts : List Int} {X : Vl} (t : T05 T) (hX : IsL h X xs) (hr : 2 ≤ r) (hP : Plays ps) (hs : Stand d ps xs) (hts : Turns ts)
    (q : ∀ (pq : Nat) (h' : Mm), Ext h h' → h.length ≤ pq → h'[pq]? = some (vI (endS ps (d, xs) ts).2) → Q (vQ (endS ps (d, xs) ts).1 pq) h') : (call T (k + 6) "turned_state" [vP r ps, .tup [.int d, X], vL ts] h).wp Q := by
  refine call_wp t.turned rfl (by decide) ?_
  simp only [ir_turned_state_3]
  walk_at "run"
  refine sp_state_trail (k := k) t hX hr hP hs hts fun pq as h1 x1 tr => ?_
  have x1l := x1.len
  by_cases e : ts = []
  · subst e
    have ea : as = [] := by
      have := tr.at_.len
      rw [trailS_len] at this
      exact List.eq_nil_of_length_eq_zero this
    subst ea
    have hq : h1[pq]? = some [] := tr.q
    have e0 : endS ps (d, xs) [] = (d, xs) := rfl
    rw [e0] at q
    have fin : ∀ (p4 : Nat) (h2 : Mm), h1.length = p4 → h2.length = p4 + 1 → h2[p4]? = some (vI xs) → (∀ m : Nat, m < p4 → h2[m]? = h1[m]?) → Q (vQ d p4) h2 := fun p4 h2 e1 e2 e3 e4 => q p4 h2 (x1.trans (.new e1 e2 e4)) (by omega) e3
    clear q tr
    rcases hX with rfl | ⟨p0, rfl, g0⟩
    · repeat walk_at "go"
      all_goals (rename_i p4 h2 e1 e2 e3 e4; exact fin p4 h2 e1 e2 e3 e4)
    · have g1 := x1.get g0
      repeat walk_at "go"
      all_goals (rename_i p4 h2 e1 e2 e3 e4; exact fin p4 h2 e1 e2 e3 e4)
  · obtain ⟨pl, g1, g2, g3⟩ := tr.last e
    have fin := q pl h1 x1 (by have := tr.up pl g3; have := tr.lo; omega) g2
    have hq := tr.q
    have ne : (vTr as (trailS ps (d, xs) ts)).isEmpty = false := by
      have := vTr_len tr.at_.len
      rw [trailS_len] at this
      rw [List.isEmpty_eq_false_iff]
      intro z
      rw [z] at this
      exact e (List.eq_nil_of_length_eq_zero this.symm)
    clear q tr hX
    generalize vTr as (trailS ps (d, xs) ts) = vt at *
    repeat walk_at "go"
    all_goals exact fin
end
end IR

set_option Elab.async false
set_option linter.all false
set_option maxRecDepth 100000
set_option maxHeartbeats 4000000
namespace IR
open PySem PySem.Spec PyProof.Rows L2 Dl
local macro_rules | `(tactic| walk_at "run") => `(tactic| simp (disch := omega) only [↓s_nil, ↓s_cons, ↓s_tnx, ↓s_trt, ↓s_tbk, ↓s_tct, ↓s_set, ↓s_par', ↓s_tset', ↓s_setix', ↓s_ife, ↓s_for, ↓s_ret, ↓s_retN, ↓s_expr, ↓s_pass, ↓s_brk, ↓s_cont, ↓w_int, ↓w_bl, ↓w_non, ↓w_str, ↓w_loc, ↓w_bin, ↓w_cmp, ↓w_chain, ↓w_and, ↓w_or, ↓w_not, ↓w_neg, ↓w_ite, ↓w_tup', ↓w_lst', ↓w_ix, ↓w_slice, ↓w_o0, ↓w_o1, ↓w_call, ↓w_callk, ↓w_bi, ↓w_isi, ↓w_app, ↓w_lc, ↓w_nil, ↓w_cons, ↓t_and, ↓t_or, ↓t_not, ↓t_tru, ↓i_over', ↓i_rng1', ↓i_rng2', ↓i_rng3', ↓i_zip', ↓i_enum', ↓wp_ok, ↓wp_next, ↓wp_ret, ↓wp_brk, ↓wp_cont, ↓at_z, ↓at_s, ↓onB_bl, ↓onI_int, ↓onC_cell, ↓onT_bl, ↓onT_non, ↓onT_cell', ↓onT_tup, ↓br_t, ↓br_f, ↓if_t, ↓onO_some, ↓itO_cell, ↓itO_tup, ↓itO_frz, seq_cell, seq_frz, watch_cell, watch_frz, List.set_cons_zero, List.set_cons_succ, List.map_cons, List.map_nil, List.cons_append, List.nil_append, List.append_nil, List.replicate_succ, List.replicate_zero, asgT, asgTs, Option.some.injEq, exists_eq_left', exists_eq_left, l_add, l_sub, ↓l_mul, ↓l_fdiv, ↓l_mod, ↓l_pow, ↓l_lt, ↓l_le, ↓l_gt, ↓l_ge, ↓l_eqI, ↓l_neI, ↓l_eqS, ↓l_neS, ↓l_isN, ↓l_isnN, ↓l_cat, ↓l_rep, isi_non_int, isi_non_bool, isi_non_str, isi_non_list, isi_non_tuple, isi_bl_int, isi_bl_bool, isi_bl_str, isi_bl_list, isi_bl_tuple, isi_int_int, isi_int_bool, isi_int_str, isi_int_list, isi_int_tuple, isi_str_int, isi_str_bool, isi_str_str, isi_str_list, isi_str_tuple, isi_tup_int, isi_tup_bool, isi_tup_str, isi_tup_list, isi_tup_tuple, isi_cell_int, isi_cell_bool, isi_cell_str, isi_cell_list, isi_cell_tuple, isi_frz_int, isi_frz_bool, isi_frz_str, isi_frz_list, isi_frz_tuple, ↓l_len, ↓l_lenT, ↓l_lenF, ↓l_abs, ↓l_max, ↓l_min, ↓l_toInt, ↓l_toIntB, ↓l_list, ↓l_tupT, ↓l_tupC, ↓l_sum, ↓l_all, ↓l_reprC, ↓l_reprT, Bool.not_true, Bool.not_false, List.getD_cons_zero, List.getD_cons_succ, ↓l_ixc, ↓l_ixt, ↓l_ixf, atI_0, atI_1, atI_2, atI_3, atI_end, ↓l_app, ↓l_slice, ixN_0, ixN_1, ixN_2, ↓tvL, wipeE, List.length_cons, List.length_nil, Nat.reduceAdd, Nat.reduceSub, Nat.reduceLeDiff, List.isEmpty_nil, List.isEmpty_cons, Int.reduceToNat, Int.reducePow, Int.reduceAdd, Int.reduceSub, Int.reduceMul, Int.reduceNeg, Int.reduceLT, Int.reduceLE, Bool.true_and, Bool.and_true, asInts_map, asBools_map, decide_true, decide_false, ↓onT_int, ↓onT_lst, ↓w_frz, ↓w_fls, ↓w_fcall, ↓w_fcallk, ↓fz_same, ↓fz_nw, isP_int, isP_bl, isP_str, isP_non, isP_frz, isP_cell, Bool.false_and, Bool.and_false, isP_lst, isP_tup, isPL_nil, isPL_cons, isPL_ints, isPL_bls, ↓l_lenL, ↓l_listL, ↓l_listT, ↓l_listF, ↓l_tupL, ↓l_sumL, ↓l_allL, ↓l_reprL, ↓l_maxL, ↓l_minL, ↓l_reprI, cutD_map, ↓l_ixl, ↓l_catL, ↓l_catC, ↓l_sliceL, ↓l_sliceF, ↓itO_lst, seq_lst, watch_lst, isi_lst_int, isi_lst_bool, isi_lst_str, isi_lst_list, isi_lst_tuple, sn8_vL, ↓l_eqL, ↓l_neL, decide_self, *])
local macro_rules | `(tactic| walk_at "runh") => `(tactic| simp (disch := omega) only [↓s_nil, ↓s_cons, ↓s_tnx, ↓s_trt, ↓s_tbk, ↓s_tct, ↓s_set, ↓s_par', ↓s_tset', ↓s_setix', ↓s_ife, ↓s_for, ↓s_ret, ↓s_retN, ↓s_expr, ↓s_pass, ↓s_brk, ↓s_cont, ↓w_int, ↓w_bl, ↓w_non, ↓w_str, ↓w_loc, ↓w_bin, ↓w_cmp, ↓w_chain, ↓w_and, ↓w_or, ↓w_not, ↓w_neg, ↓w_ite, ↓w_tup', ↓w_lst', ↓w_ix, ↓w_slice, ↓w_o0, ↓w_o1, ↓w_call, ↓w_callk, ↓w_bi, ↓w_isi, ↓w_app, ↓w_lc, ↓w_nil, ↓w_cons, ↓t_and, ↓t_or, ↓t_not, ↓t_tru, ↓i_over', ↓i_rng1', ↓i_rng2', ↓i_rng3', ↓i_zip', ↓i_enum', ↓wp_ok, ↓wp_next, ↓wp_ret, ↓wp_brk, ↓wp_cont, ↓at_z, ↓at_s, ↓onB_bl, ↓onI_int, ↓onC_cell, ↓onT_bl, ↓onT_non, ↓onT_cell', ↓onT_tup, ↓br_t, ↓br_f, ↓if_t, ↓onO_some, ↓itO_cell, ↓itO_tup, ↓itO_frz, seq_cell, seq_frz, watch_cell, watch_frz, List.set_cons_zero, List.set_cons_succ, List.map_cons, List.map_nil, List.cons_append, List.nil_append, List.append_nil, List.replicate_succ, List.replicate_zero, asgT, asgTs, Option.some.injEq, exists_eq_left', exists_eq_left, l_add, l_sub, ↓l_mul, ↓l_fdiv, ↓l_mod, ↓l_pow, ↓l_lt, ↓l_le, ↓l_gt, ↓l_ge, ↓l_eqI, ↓l_neI, ↓l_eqS, ↓l_neS, ↓l_isN, ↓l_isnN, ↓l_cat, ↓l_rep, isi_non_int, isi_non_bool, isi_non_str, isi_non_list, isi_non_tuple, isi_bl_int, isi_bl_bool, isi_bl_str, isi_bl_list, isi_bl_tuple, isi_int_int, isi_int_bool, isi_int_str, isi_int_list, isi_int_tuple, isi_str_int, isi_str_bool, isi_str_str, isi_str_list, isi_str_tuple, isi_tup_int, isi_tup_bool, isi_tup_str, isi_tup_list, isi_tup_tuple, isi_cell_int, isi_cell_bool, isi_cell_str, isi_cell_list, isi_cell_tuple, isi_frz_int, isi_frz_bool, isi_frz_str, isi_frz_list, isi_frz_tuple, ↓l_len, ↓l_lenT, ↓l_lenF, ↓l_abs, ↓l_max, ↓l_min, ↓l_toInt, ↓l_toIntB, ↓l_list, ↓l_tupT, ↓l_tupC, ↓l_sum, ↓l_all, ↓l_reprC, ↓l_reprT, Bool.not_true, Bool.not_false, List.getD_cons_zero, List.getD_cons_succ, ↓l_ixc, ↓l_ixt, ↓l_ixf, atI_0, atI_1, atI_2, atI_3, atI_end, ↓l_app, ↓l_slice, ixN_0, ixN_1, ixN_2, ↓tvL, wipeE, List.length_cons, List.length_nil, Nat.reduceAdd, Nat.reduceSub, Nat.reduceLeDiff, List.isEmpty_nil, List.isEmpty_cons, Int.reduceToNat, Int.reducePow, Int.reduceAdd, Int.reduceSub, Int.reduceMul, Int.reduceNeg, Int.reduceLT, Int.reduceLE, Bool.true_and, Bool.and_true, asInts_map, asBools_map, decide_true, decide_false, ↓onT_int, ↓onT_lst, ↓w_frz, ↓w_fls, ↓w_fcall, ↓w_fcallk, ↓fz_same, ↓fz_nw, isP_int, isP_bl, isP_str, isP_non, isP_frz, isP_cell, Bool.false_and, Bool.and_false, isP_lst, isP_tup, isPL_nil, isPL_cons, isPL_ints, isPL_bls, ↓l_lenL, ↓l_listL, ↓l_listT, ↓l_listF, ↓l_tupL, ↓l_sumL, ↓l_allL, ↓l_reprL, ↓l_maxL, ↓l_minL, ↓l_reprI, cutD_map, ↓l_ixl, ↓l_catL, ↓l_catC, ↓l_sliceL, ↓l_sliceF, ↓itO_lst, seq_lst, watch_lst, isi_lst_int, isi_lst_bool, isi_lst_str, isi_lst_list, isi_lst_tuple, sn8_vL, ↓l_eqL, ↓l_neL, decide_self, *] at this)
local macro_rules | `(tactic| walk_at "line") => `(tactic| (first | (with_reducible apply decide_eq_true; exact Nat.le_trans (by first | (simp only [List.length_cons, List.length_nil, List.length_append, List.length_map, List.length_range]; omega) | omega) (by decide : 100000 ≤ sizeLine)) | (with_reducible apply decide_eq_true; exact Nat.lt_of_le_of_lt (by first | (simp only [List.length_cons, List.length_nil, List.length_append, List.length_map, List.length_range]; omega) | omega) (by decide : 100000 < sizeLine)) | (with_reducible exact line_le (by omega)) | (with_reducible exact line_lt (by omega))))
local macro_rules | `(tactic| walk_at "num") => `(tactic| (first | (simp only [big, wid, small, Bool.and_eq_true, decide_eq_true_eq]; omega) | (simp only [big, wid, small, Bool.and_eq_true, decide_eq_true_eq]; refine ⟨?_, ?_⟩ <;> omega)))
local macro_rules | `(tactic| walk_at "go") => `(tactic| first | walk_at "run" | (with_reducible refine nw_mk fun p h2 e1 e2 e3 e4 => ?_) | ((with_reducible refine up_mk ?up fun h2 e1 e2 e3 => ?_); (case up => omega)) | ((with_reducible refine if_mk ?gu ?_); (case gu => first | walk_at "num" | walk_at "line")))
local macro_rules | `(tactic| walk_at "goc") => `(tactic| first | walk_at "run" | ((with_reducible apply nw_cs); (case hc => assumption); intro p h2 e1 e2 e3 e4 e5 e6 e7) | ((with_reducible apply up_cs); (case hc => assumption); (case up => omega); (case ge => omega); intro h2 e1 e2 e3 e4) | ((with_reducible apply dr_cs); (case hT => assumption); (case hc => assumption); (case hm => omega); (case hm2 => omega); (case hk => omega); intro r h2 e1 e2 e3 e4 e5) | ((with_reducible refine if_mk ?gu ?_); (case gu => first | walk_at "num" | walk_at "line")))
section
variable {T : Str → Option Fn} {k : Nat} {h : Mm} {Q : Vl → Mm → Prop}
theorem pu_law_turned {r d t : Int} {ps xs : List Int} (hT : T "_law_turned" = some ir_law_turned) (hl : xs.length = ps.length) (hm : ps.length ≤ 60) : Pu T (k + 1) "_law_turned" [vP r ps, vP d xs, .int t] (vS (stepS ps (d, xs) t)) := pu_mk hT rfl (by decide) fun h => by
  simp only [ir_law_turned]
  repeat walk_at "go"
  rename_i p h2 e1 e2 e3 e4
  subst e1
  rw [zipV_map]
  refine for_map _ (fun us ρ h' => ∃ (a b : Option Vl), ρ = [some (vP r ps), some (vP d xs), some (.int t), some (.int (d + t)), some (.cell h.length), some (.int (lastL t (d + t) (us.map (·.1)) (us.map (·.2)))), a, b] ∧ Ext h h' ∧ h.length < h'.length ∧ h'[h.length]? = some (vI (pushL t (d + t) (us.map (·.1)) (us.map (·.2)))) ∧ us.length ≤ 60)
    ⟨none, none, by simp [lastL, pushL], .new rfl e2 e4, by omega, e3, by simp⟩ ?_ ?_
  · rintro us ⟨u, v⟩ ws ρ h' e ⟨a, b, rfl, x, lp, g, hl2⟩
    have len := congrArg List.length e
    simp only [List.length_zip, List.length_append, List.length_cons] at len
    clear e
    have snoc := pushL_snoc (t := t) (a := d + t) (ps := us.map (·.1)) (xs := us.map (·.2)) (p := u) (x := v) (by simp)
    have last : lastL t (d + t) (us.map (·.1) ++ [u]) (us.map (·.2) ++ [v]) = if 0 < t then max v (lastL t (d + t) (us.map (·.1)) (us.map (·.2)) - u) else min v (lastL t (d + t) (us.map (·.1)) (us.map (·.2))) := by
      rw [lastL, snoc, getLastD_snoc]
    have plen : (vI (pushL t (d + t) (us.map (·.1)) (us.map (·.2)))).length ≤ 60 := by
      rw [List.length_map, pushL_len' _ _ _ _ (by simp)]; simp; omega
    refine ⟨_, rfl, ?_⟩
    by_cases ht : 0 < t
    · rw [if_pos ht] at snoc last
      repeat walk_at "go"
      rename_i h3 g1 g2 g3
      exact ⟨some (.int u), some (.int v), by simp [last], x.up (by omega) g1 g3, by first | trivial | omega, by simp [snoc, vI], by simp; omega⟩
    · rw [if_neg ht] at snoc last
      repeat walk_at "go"
      rename_i h3 g1 g2 g3
      exact ⟨some (.int u), some (.int v), by simp [last], x.up (by omega) g1 g3, by first | trivial | omega, by simp [snoc, vI], by simp; omega⟩
  · rintro ρ h' ⟨a, b, rfl, x, lp, g, hl2⟩
    rw [List.map_fst_zip (by omega), List.map_snd_zip (by omega)] at g
    repeat walk_at "go"
    exact pu_endT x (Nat.le_refl _) g isPL_ints
theorem dr_swings {c : Nat} {r n far : Int} {ps : List Int} (t : T05 T) (hP : Plays ps) (r2 : 2 ≤ r) (r31 : r ≤ 10 ^ 31) (hB : ∀ x ∈ ps, x ≤ 10 ^ 32) (n0 : 0 ≤ n) (n1 : n ≤ 60) (f1 : 1 ≤ far) (f2 : far ≤ 10 ^ 33) :
    Dr T (k + 2) "_law_swings" [.cell c, vP r ps, .int n, .int far] c 500 fun y => ∃ ts, y = vL ts ∧ (ts.length : Int) ≤ n ∧ TurnsB (10 ^ 34) ts := dr_mk t.swings rfl (by decide) fun h j cs hj => by
  have hT := draw_coil t.draw
  have k1 := pu_eqs (pu_reaches (k := k) (r := r) t.reaches hP)
  have sb := sumsL_le (m := 10 ^ 32) ps 0 fun p hp => ⟨hP.nn p hp, hB p hp⟩
  have sl := sumsL_len ps 0
  have one := hP.one
  have most := hP.most
  simp only [ir_law_swings]
  generalize sumsL 0 ps = ss at *
  have ssl : (vI ss).length = ss.length := by rw [List.length_map]
  repeat walk_at "goc"
  rename_i p h2 e1 e2 e3 e4 e5 e6 e7 s1 h3 a1 a2 a3 a4 a5 s2 h4 b1 b2 b3 b4 b5
  have e3' : h4[p]? = some [] := by rw [b5 p (by omega), a5 p (by omega)]; exact e3
  have lp4 : p < h4.length := by omega
  clear e1 e2 e3 e4 e6 a3 a4 a5 b3 b5 cs
  refine for_rng (fun i ρ h' => ∃ (ts : List Int) (b : Int) (u v w : Option Vl), ρ = [some (.cell c), some (vP r ps), some (.int n), some (.int far), some (.cell p), some (.int b), some (vL ss), u, v, w] ∧ 0 ≤ b ∧ b < 2 ∧ ts.length = i ∧ TurnsB (10 ^ 34) ts ∧ h'[p]? = some (vI ts) ∧ p < h'.length ∧ CS h h' c (j + 2 + 5 * i)) ⟨[], s1, none, none, none, rfl, a1, a2, rfl, (by intro t ht; cases ht), e3', lp4, b4⟩ ?_ ?_
  · rintro i ρ h5 hi ⟨ts, b, u, v, w, rfl, b0, b1, l, tb, g, lp, cs⟩
    have hi60 : i < 60 := by omega
    clear hi b2 b4 e3' lp4 a1 a2
    have tl : (vI ts).length = i := by rw [List.length_map]; exact l
    refine ⟨_, rfl, ?_⟩
    repeat walk_at "goc"
    rename_i s3 h6 c1 c2 c3 cs6 c5
    refine ix_menu ss (fun v => 0 ≤ v ∧ v ≤ 10 ^ 33) (by omega) (by omega) (fun x hx => by have := sb x hx; omega) fun rv hrv => ?_
    have lp6 : p < h6.length := by omega
    have g6 : h6[p]? = some (vI ts) := by rw [c5 p (by omega)]; exact g
    clear k1 sb cs g lp c3 c5
    repeat walk_at "goc"
    rename_i s4 h7 d1 d2 d3 cs7 d5 s5 h8 q1 q2 q3 cs8 q5
    refine ix_menu [1, r, rv, rv + 1, rv - 1, 1 + s4] (fun v => v ≤ 10 ^ 34 ∧ -1 ≤ v) (by omega) (by simp; omega) (by simp; omega) fun mv hmv => ?_
    have lp8 : p < h8.length := by omega
    have g8 : h8[p]? = some (vI ts) := by rw [q5 p (by omega), d5 p (by omega)]; exact g6
    clear cs6 cs7 g6 lp6 q3 q5 d3 d5
    repeat walk_at "goc"
    rename_i s6 h9 o1 o2 o3 cs9 o5 s7 h10 m1 m2 m3 cs10 m5
    refine ix_menu [1 - b, 1 - b, s6] (fun v => 0 ≤ v ∧ v < 2) (by omega) (by simp; omega) (by simp; omega) fun bv hbv => ?_
    have lp10 : p < h10.length := by omega
    have g10 : h10[p]? = some (vI ts) := by rw [m5 p (by omega), o5 p (by omega)]; exact g8
    clear cs8 cs9 g8 lp8 m3 m5 o3 o5
    walk_at "run"
    refine ix_menu [-1, 1] (fun v => v = -1 ∨ v = 1) (by omega) (by simp; omega) (by simp) fun sg hsg => ?_
    have hmx : 1 ≤ max 1 mv ∧ max 1 mv ≤ 10 ^ 34 := by omega
    generalize max 1 mv = mx at *
    have hmul : mx * sg ≠ 0 ∧ -(10 ^ 34) ≤ mx * sg ∧ mx * sg ≤ 10 ^ 34 := by rcases hsg with rfl | rfl <;> omega
    have hbig : (wid mx && wid sg) = true := by simp only [wid, Bool.and_eq_true, decide_eq_true_eq]; omega
    repeat walk_at "goc"
    rename_i h11 z1 z2 z3 cs11
    refine ⟨ts ++ [mx * sg], bv, _, _, _, rfl, hbv.1, hbv.2, by simp [l], fun t ht => ?_, by first | trivial | (simp [vI] ; done) | exact z2, by first | trivial | omega, cs11.le (by omega)⟩
    rcases List.mem_append.mp ht with ht | ht
    · exact tb t ht
    · rw [List.mem_singleton.mp ht]; exact hmul
  · rintro ρ h5 ⟨ts, b, u, v, w, rfl, b0, b1, l, tb, g, lp, cs⟩
    walk_at "run"
    exact dr_endC e7 g isPL_ints ⟨ts, rfl, by omega, tb⟩ cs (by omega)
theorem endS_two {ps : List Int} {s : Stt} {us vs : List Int} {u a : Int} (e : endS ps s vs = endS ps s us) (h : (0 < a ∧ 0 < u - a) ∨ (a < 0 ∧ u - a < 0)) : endS ps s (vs ++ [a, u - a]) = endS ps s (us ++ [u]) := by
  rw [show vs ++ [a, u - a] = (vs ++ [a]) ++ [u - a] by simp, endS_snoc, endS_snoc, endS_snoc, e, step_step h]
  congr 1
  omega
theorem dr_parted {c : Nat} {ts : List Int} {B : Int} (t : T05 T) (hts : ts.length ≤ 60) (tb : TurnsB B ts) (hB : B ≤ 10 ^ 50) :
    Dr T (k + 2) "_law_parted" [.cell c, vL ts] c 200 fun y => ∃ us, y = vL us ∧ us.length ≤ 60 ∧ TurnsB B us ∧ ∀ ps s, endS ps s us = endS ps s ts := dr_mk t.parted rfl (by decide) fun h j cs hj => by
  have hT := draw_coil t.draw
  simp only [ir_law_parted]
  repeat walk_at "goc"
  rename_i p h2 e1 e2 e3 e4 e5 e6 e7
  refine for_map _ (fun us ρ h' => ∃ (vs : List Int) (q : Nat) (a b : Option Vl), ρ = [some (.cell c), some (vL ts), some (.cell q), a, b] ∧ us.length ≤ 60 ∧ vs.length ≤ 60 ∧ (ts.length < 31 → vs.length ≤ 2 * us.length) ∧ (¬ ts.length < 31 → vs.length = us.length) ∧ TurnsB B vs ∧ (∀ ps s, endS ps s vs = endS ps s us) ∧ h.length ≤ q ∧ q < h'.length ∧ h'[q]? = some (vI vs) ∧ CS h h' c (j + 2 * us.length)) ⟨[], p, none, none, rfl, by simp, by simp, by simp, by simp, (by intro t ht; cases ht), fun _ _ => rfl, e7, by omega, e3, e6⟩ ?_ ?_
  · rintro us u ws ρ h' e ⟨vs, q, a, b, rfl, l, lv, l1, l2, vb, ve, lo, lt, g, cs'⟩
    have len := congrArg List.length e
    have ub := tb u (by rw [e]; simp)
    simp only [List.length_append, List.length_cons] at len
    have len2 : us.length + 1 ≤ ts.length := by omega
    clear e tb e1 e2 e3 e4 e6 len
    have vl : (vI vs).length = vs.length := by rw [List.length_map]
    have qc : q ≠ c := by have := cs.lt; omega
    refine ⟨_, rfl, ?_⟩
    have one : ∀ h9 : Mm, CS h h9 c (j + 2 * us.length + 1) → h9[q]? = some (vI vs ++ [.int u]) → q < h9.length → ∃ (vs' : List Int) (q' : Nat) (a' b' : Option Vl), [some (.cell c), some (vL ts), some (.cell q), some (.int u), b] = [some (.cell c), some (vL ts), some (.cell q'), a', b'] ∧ (us ++ [u]).length ≤ 60 ∧ vs'.length ≤ 60 ∧ (ts.length < 31 → vs'.length ≤ 2 * (us ++ [u]).length) ∧ (¬ ts.length < 31 → vs'.length = (us ++ [u]).length) ∧ TurnsB B vs' ∧ (∀ ps s, endS ps s vs' = endS ps s (us ++ [u])) ∧ h.length ≤ q' ∧ q' < h'.length ∧ h9[q']? = some (vI vs') ∧ CS h h9 c (j + 2 * (us ++ [u]).length) := fun h9 cs9 g9 l9 => by
      refine ⟨vs ++ [u], q, _, b, rfl, by simp; omega, ?_, ?_, ?_, fun t ht => ?_, fun ps s => ?_, lo, lt, by rw [g9]; simp [vI], by rw [List.length_append, List.length_singleton]; exact cs9.le (by omega)⟩
      · by_cases z : ts.length < 31
        · have := l1 z; rw [List.length_append, List.length_singleton]; omega
        · have := l2 z; rw [List.length_append, List.length_singleton]; omega
      · intro z; have := l1 z; simp only [List.length_append, List.length_singleton]; omega
      · intro z; have := l2 z; simp only [List.length_append, List.length_singleton]; omega
      · rcases List.mem_append.mp ht with ht | ht
        · exact vb t ht
        · rw [List.mem_singleton.mp ht]; exact ub
      · rw [endS_snoc, endS_snoc, ve]
    have dec : ∀ P : Prop, [Decidable P] → ∀ A B : Prop, (P → A) → (¬ P → B) → Br (decide P) A B := fun P _ A B x y => br_mk (fun z => x (of_decide_eq_true z)) (fun z => y (of_decide_eq_false z))
    repeat walk_at "goc"
    refine dec _ _ _ (fun c1 => ?_) (fun c1 => ?_)
    rotate_left
    · clear ve dec
      repeat walk_at "goc"
      rename_i h9 z1 z2 z3 cs9
      exact one h9 (cs9.le (by omega)) z2 (by omega)
    repeat walk_at "goc"
    refine dec _ _ _ (fun c2 => ?_) (fun c2 => ?_)
    rotate_left
    · clear ve dec
      repeat walk_at "goc"
      rename_i h9 z1 z2 z3 cs9
      exact one h9 (cs9.le (by omega)) z2 (by omega)
    repeat walk_at "goc"
    refine dec _ _ _ (fun c3 => ?_) (fun c3 => ?_)
    rotate_left
    · clear ve dec
      repeat walk_at "goc"
      rename_i h9 z1 z2 z3 cs9
      exact one h9 (cs9.le (by omega)) z2 (by omega)
    repeat walk_at "goc"
    rename_i s8 h8 d1 d2 d3 cs8 d5
    have g8 : h8[q]? = some (vI vs) := by rw [d5 q qc]; exact g
    clear d5
    refine br_mk (fun c4 => ?_) (fun c4 => ?_)
    rotate_left
    · clear ve dec
      repeat walk_at "goc"
      all_goals (rename_i h9 z1 z2 z3 cs9; exact one h9 cs9 z2 (by omega))
    have c3' : ts.length < 31 := by rw [List.length_map] at c3; omega
    have two : ∀ (a : Int) (p9 : Nat) (h9 : Mm), (0 < a ∧ 0 < u - a) ∨ (a < 0 ∧ u - a < 0) → CS h h9 c (j + 2 * us.length + 2) → h9[p9]? = some (vI vs ++ [.int a, .int (u - a)]) → h.length ≤ p9 → p9 < h9.length → ∃ (vs' : List Int) (q' : Nat) (a' b' : Option Vl), [some (.cell c), some (vL ts), some (.cell p9), some (.int u), some (.int a)] = [some (.cell c), some (vL ts), some (.cell q'), a', b'] ∧ (us ++ [u]).length ≤ 60 ∧ vs'.length ≤ 60 ∧ (ts.length < 31 → vs'.length ≤ 2 * (us ++ [u]).length) ∧ (¬ ts.length < 31 → vs'.length = (us ++ [u]).length) ∧ TurnsB B vs' ∧ (∀ ps s, endS ps s vs' = endS ps s (us ++ [u])) ∧ h.length ≤ q' ∧ q' < h9.length ∧ h9[q']? = some (vI vs') ∧ CS h h9 c (j + 2 * (us ++ [u]).length) := fun a p9 h9 hz cs9 g9 lo9 l9 => by
      refine ⟨vs ++ [a, u - a], p9, _, _, rfl, by simp; omega, ?_, ?_, ?_, fun t ht => ?_, fun ps s => endS_two (ve ps s) hz, lo9, l9, by rw [g9]; simp [vI], by rw [List.length_append, List.length_singleton]; exact cs9.le (by omega)⟩
      · have := l1 c3'; simp only [List.length_append, List.length_cons, List.length_nil]; omega
      · intro z; have := l1 z; simp only [List.length_append, List.length_cons, List.length_nil]; omega
      · intro z; exact absurd c3' z
      · rcases List.mem_append.mp ht with ht | ht
        · exact vb t ht
        · simp only [List.mem_cons, List.not_mem_nil, or_false] at ht
          rcases ht with rfl | rfl <;> omega
    clear ve one
    repeat walk_at "goc"
    rename_i s9 h9 o1 o2 o3 cs9 o5
    have g9 : h9[q]? = some (vI vs) := by rw [o5 q qc]; exact g8
    clear o5 o3 d3
    refine dec _ _ _ (fun c5 => ?_) (fun c5 => ?_)
    · have t2 := two (1 + s9)
      clear two dec c3 c3'
      repeat walk_at "goc"
      rename_i p9 h10 f1 f2 f3 f4 f5 f6 f7
      have t3 := t2 p9 h10 (by omega) f6 f3 f7 (by omega)
      simp only [f2] at t3
      exact t3
    · have t2 := two (0 - (1 + s9))
      clear two dec c3 c3'
      repeat walk_at "goc"
      rename_i p9 h10 f1 f2 f3 f4 f5 f6 f7
      have t3 := t2 p9 h10 (by omega) f6 f3 f7 (by omega)
      simp only [f2] at t3
      exact t3
  · rintro ρ h' ⟨vs, q, a, b, rfl, l, lv, l1, l2, vb, ve, lo, lt, g, cs'⟩
    walk_at "run"
    exact dr_endC lo g isPL_ints ⟨vs, rfl, lv, vb, ve⟩ cs' (by omega)
end
end IR

set_option Elab.async false
set_option linter.all false
set_option maxRecDepth 100000
set_option maxHeartbeats 4000000
namespace IR
open PySem PySem.Spec PyProof.Rows L2 Dl
local macro_rules | `(tactic| walk_at "run") => `(tactic| simp (disch := omega) only [↓s_nil, ↓s_cons, ↓s_tnx, ↓s_trt, ↓s_tbk, ↓s_tct, ↓s_set, ↓s_par', ↓s_tset', ↓s_setix', ↓s_ife, ↓s_for, ↓s_ret, ↓s_retN, ↓s_expr, ↓s_pass, ↓s_brk, ↓s_cont, ↓w_int, ↓w_bl, ↓w_non, ↓w_str, ↓w_loc, ↓w_bin, ↓w_cmp, ↓w_chain, ↓w_and, ↓w_or, ↓w_not, ↓w_neg, ↓w_ite, ↓w_tup', ↓w_lst', ↓w_ix, ↓w_slice, ↓w_o0, ↓w_o1, ↓w_call, ↓w_callk, ↓w_bi, ↓w_isi, ↓w_app, ↓w_lc, ↓w_nil, ↓w_cons, ↓t_and, ↓t_or, ↓t_not, ↓t_tru, ↓i_over', ↓i_rng1', ↓i_rng2', ↓i_rng3', ↓i_zip', ↓i_enum', ↓wp_ok, ↓wp_next, ↓wp_ret, ↓wp_brk, ↓wp_cont, ↓at_z, ↓at_s, ↓onB_bl, ↓onI_int, ↓onC_cell, ↓onT_bl, ↓onT_non, ↓onT_cell', ↓onT_tup, ↓br_t, ↓br_f, ↓if_t, ↓onO_some, ↓itO_cell, ↓itO_tup, ↓itO_frz, seq_cell, seq_frz, watch_cell, watch_frz, List.set_cons_zero, List.set_cons_succ, List.map_cons, List.map_nil, List.cons_append, List.nil_append, List.append_nil, List.replicate_succ, List.replicate_zero, asgT, asgTs, Option.some.injEq, exists_eq_left', exists_eq_left, l_add, l_sub, ↓l_mul, ↓l_fdiv, ↓l_mod, ↓l_pow, ↓l_lt, ↓l_le, ↓l_gt, ↓l_ge, ↓l_eqI, ↓l_neI, ↓l_eqS, ↓l_neS, ↓l_isN, ↓l_isnN, ↓l_cat, ↓l_rep, isi_non_int, isi_non_bool, isi_non_str, isi_non_list, isi_non_tuple, isi_bl_int, isi_bl_bool, isi_bl_str, isi_bl_list, isi_bl_tuple, isi_int_int, isi_int_bool, isi_int_str, isi_int_list, isi_int_tuple, isi_str_int, isi_str_bool, isi_str_str, isi_str_list, isi_str_tuple, isi_tup_int, isi_tup_bool, isi_tup_str, isi_tup_list, isi_tup_tuple, isi_cell_int, isi_cell_bool, isi_cell_str, isi_cell_list, isi_cell_tuple, isi_frz_int, isi_frz_bool, isi_frz_str, isi_frz_list, isi_frz_tuple, ↓l_len, ↓l_lenT, ↓l_lenF, ↓l_abs, ↓l_max, ↓l_min, ↓l_toInt, ↓l_toIntB, ↓l_list, ↓l_tupT, ↓l_tupC, ↓l_sum, ↓l_all, ↓l_reprC, ↓l_reprT, Bool.not_true, Bool.not_false, List.getD_cons_zero, List.getD_cons_succ, ↓l_ixc, ↓l_ixt, ↓l_ixf, atI_0, atI_1, atI_2, atI_3, atI_end, ↓l_app, ↓l_slice, ixN_0, ixN_1, ixN_2, ↓tvL, wipeE, List.length_cons, List.length_nil, Nat.reduceAdd, Nat.reduceSub, Nat.reduceLeDiff, List.isEmpty_nil, List.isEmpty_cons, Int.reduceToNat, Int.reducePow, Int.reduceAdd, Int.reduceSub, Int.reduceMul, Int.reduceNeg, Int.reduceLT, Int.reduceLE, Bool.true_and, Bool.and_true, asInts_map, asBools_map, decide_true, decide_false, ↓onT_int, ↓onT_lst, ↓w_frz, ↓w_fls, ↓w_fcall, ↓w_fcallk, ↓fz_same, ↓fz_nw, isP_int, isP_bl, isP_str, isP_non, isP_frz, isP_cell, Bool.false_and, Bool.and_false, isP_lst, isP_tup, isPL_nil, isPL_cons, isPL_ints, isPL_bls, ↓l_lenL, ↓l_listL, ↓l_listT, ↓l_listF, ↓l_tupL, ↓l_sumL, ↓l_allL, ↓l_reprL, ↓l_maxL, ↓l_minL, ↓l_reprI, cutD_map, ↓l_ixl, ↓l_catL, ↓l_catC, ↓l_sliceL, ↓l_sliceF, ↓itO_lst, seq_lst, watch_lst, isi_lst_int, isi_lst_bool, isi_lst_str, isi_lst_list, isi_lst_tuple, sn8_vL, ↓l_eqL, ↓l_neL, decide_self, *])
local macro_rules | `(tactic| walk_at "runh") => `(tactic| simp (disch := omega) only [↓s_nil, ↓s_cons, ↓s_tnx, ↓s_trt, ↓s_tbk, ↓s_tct, ↓s_set, ↓s_par', ↓s_tset', ↓s_setix', ↓s_ife, ↓s_for, ↓s_ret, ↓s_retN, ↓s_expr, ↓s_pass, ↓s_brk, ↓s_cont, ↓w_int, ↓w_bl, ↓w_non, ↓w_str, ↓w_loc, ↓w_bin, ↓w_cmp, ↓w_chain, ↓w_and, ↓w_or, ↓w_not, ↓w_neg, ↓w_ite, ↓w_tup', ↓w_lst', ↓w_ix, ↓w_slice, ↓w_o0, ↓w_o1, ↓w_call, ↓w_callk, ↓w_bi, ↓w_isi, ↓w_app, ↓w_lc, ↓w_nil, ↓w_cons, ↓t_and, ↓t_or, ↓t_not, ↓t_tru, ↓i_over', ↓i_rng1', ↓i_rng2', ↓i_rng3', ↓i_zip', ↓i_enum', ↓wp_ok, ↓wp_next, ↓wp_ret, ↓wp_brk, ↓wp_cont, ↓at_z, ↓at_s, ↓onB_bl, ↓onI_int, ↓onC_cell, ↓onT_bl, ↓onT_non, ↓onT_cell', ↓onT_tup, ↓br_t, ↓br_f, ↓if_t, ↓onO_some, ↓itO_cell, ↓itO_tup, ↓itO_frz, seq_cell, seq_frz, watch_cell, watch_frz, List.set_cons_zero, List.set_cons_succ, List.map_cons, List.map_nil, List.cons_append, List.nil_append, List.append_nil, List.replicate_succ, List.replicate_zero, asgT, asgTs, Option.some.injEq, exists_eq_left', exists_eq_left, l_add, l_sub, ↓l_mul, ↓l_fdiv, ↓l_mod, ↓l_pow, ↓l_lt, ↓l_le, ↓l_gt, ↓l_ge, ↓l_eqI, ↓l_neI, ↓l_eqS, ↓l_neS, ↓l_isN, ↓l_isnN, ↓l_cat, ↓l_rep, isi_non_int, isi_non_bool, isi_non_str, isi_non_list, isi_non_tuple, isi_bl_int, isi_bl_bool, isi_bl_str, isi_bl_list, isi_bl_tuple, isi_int_int, isi_int_bool, isi_int_str, isi_int_list, isi_int_tuple, isi_str_int, isi_str_bool, isi_str_str, isi_str_list, isi_str_tuple, isi_tup_int, isi_tup_bool, isi_tup_str, isi_tup_list, isi_tup_tuple, isi_cell_int, isi_cell_bool, isi_cell_str, isi_cell_list, isi_cell_tuple, isi_frz_int, isi_frz_bool, isi_frz_str, isi_frz_list, isi_frz_tuple, ↓l_len, ↓l_lenT, ↓l_lenF, ↓l_abs, ↓l_max, ↓l_min, ↓l_toInt, ↓l_toIntB, ↓l_list, ↓l_tupT, ↓l_tupC, ↓l_sum, ↓l_all, ↓l_reprC, ↓l_reprT, Bool.not_true, Bool.not_false, List.getD_cons_zero, List.getD_cons_succ, ↓l_ixc, ↓l_ixt, ↓l_ixf, atI_0, atI_1, atI_2, atI_3, atI_end, ↓l_app, ↓l_slice, ixN_0, ixN_1, ixN_2, ↓tvL, wipeE, List.length_cons, List.length_nil, Nat.reduceAdd, Nat.reduceSub, Nat.reduceLeDiff, List.isEmpty_nil, List.isEmpty_cons, Int.reduceToNat, Int.reducePow, Int.reduceAdd, Int.reduceSub, Int.reduceMul, Int.reduceNeg, Int.reduceLT, Int.reduceLE, Bool.true_and, Bool.and_true, asInts_map, asBools_map, decide_true, decide_false, ↓onT_int, ↓onT_lst, ↓w_frz, ↓w_fls, ↓w_fcall, ↓w_fcallk, ↓fz_same, ↓fz_nw, isP_int, isP_bl, isP_str, isP_non, isP_frz, isP_cell, Bool.false_and, Bool.and_false, isP_lst, isP_tup, isPL_nil, isPL_cons, isPL_ints, isPL_bls, ↓l_lenL, ↓l_listL, ↓l_listT, ↓l_listF, ↓l_tupL, ↓l_sumL, ↓l_allL, ↓l_reprL, ↓l_maxL, ↓l_minL, ↓l_reprI, cutD_map, ↓l_ixl, ↓l_catL, ↓l_catC, ↓l_sliceL, ↓l_sliceF, ↓itO_lst, seq_lst, watch_lst, isi_lst_int, isi_lst_bool, isi_lst_str, isi_lst_list, isi_lst_tuple, sn8_vL, ↓l_eqL, ↓l_neL, decide_self, *] at this)
local macro_rules | `(tactic| walk_at "line") => `(tactic| (first | (with_reducible apply decide_eq_true; exact Nat.le_trans (by first | (simp only [List.length_cons, List.length_nil, List.length_append, List.length_map, List.length_range]; omega) | omega) (by decide : 100000 ≤ sizeLine)) | (with_reducible apply decide_eq_true; exact Nat.lt_of_le_of_lt (by first | (simp only [List.length_cons, List.length_nil, List.length_append, List.length_map, List.length_range]; omega) | omega) (by decide : 100000 < sizeLine)) | (with_reducible exact line_le (by omega)) | (with_reducible exact line_lt (by omega))))
local macro_rules | `(tactic| walk_at "num") => `(tactic| (first | (simp only [big, wid, small, Bool.and_eq_true, decide_eq_true_eq]; omega) | (simp only [big, wid, small, Bool.and_eq_true, decide_eq_true_eq]; refine ⟨?_, ?_⟩ <;> omega)))
local macro_rules | `(tactic| walk_at "go") => `(tactic| first | walk_at "run" | (with_reducible refine nw_mk fun p h2 e1 e2 e3 e4 => ?_) | ((with_reducible refine up_mk ?up fun h2 e1 e2 e3 => ?_); (case up => omega)) | ((with_reducible refine if_mk ?gu ?_); (case gu => first | walk_at "num" | walk_at "line")))
local macro_rules | `(tactic| walk_at "goc") => `(tactic| first | walk_at "run" | ((with_reducible apply nw_cs); (case hc => assumption); intro p h2 e1 e2 e3 e4 e5 e6 e7) | ((with_reducible apply up_cs); (case hc => assumption); (case up => omega); (case ge => omega); intro h2 e1 e2 e3 e4) | ((with_reducible apply dr_cs); (case hT => assumption); (case hc => assumption); (case hm => omega); (case hm2 => omega); (case hk => omega); intro r h2 e1 e2 e3 e4 e5) | ((with_reducible refine if_mk ?gu ?_); (case gu => first | walk_at "num" | walk_at "line")))
theorem sh_st {s : Stt} {B : Int} (h : Bd B s) (hB : B < 10 ^ 50) (hl : s.2.length ≤ 8) : Sh 10 2 (dSt s) := by
  have h1 : Sh 0 0 (.int s.1) := .int (nab h.1.1 h.1.2 hB)
  have h2 : Sh s.2.length 1 (dI s.2) := .dI fun x hx => nab (h.2 x hx).1 (h.2 x hx).2 hB
  exact (Sh.tuple (ShAll.cons2 h1 (ShAll.cons2 h2 .nil0))).mono (by omega) (by omega)
theorem shA_map {w d : Nat} {f : Stt → PyData} : ∀ {ss : List Stt}, (∀ s ∈ ss, Sh w d (f s)) → ShAll ((w + 1) * ss.length) d (ss.map f)
  | [], _ => .nil
  | s :: ss, h => by
    have := ShAll.cons (h s (by simp)) (shA_map (ss := ss) fun x hx => h x (List.mem_cons_of_mem _ hx))
    rw [List.length_cons, List.map_cons, Nat.mul_add, Nat.mul_one, Nat.add_comm]
    exact this
theorem nd_idx {as : List Nat} (nd : as.Pairwise (· < ·)) {i j p : Nat} (e1 : as[i]? = some p) (e2 : as[j]? = some p) : i = j := by
  rw [List.pairwise_iff_getElem] at nd
  obtain ⟨a1, b1⟩ := List.getElem?_eq_some_iff.mp e1
  obtain ⟨a2, b2⟩ := List.getElem?_eq_some_iff.mp e2
  rcases Nat.lt_trichotomy i j with h | h | h
  · have := nd i j a1 a2 h; omega
  · exact h
  · have := nd j i a2 a1 h; omega
def dKept (r : Int) (ps : List Int) (s : Stt) (ts : List Int) : PyData := .list [dSt (r, ps), dSt s, dI ts]
theorem ok_kept {r : Int} {ps : List Int} {s : Stt} {ts : List Int} (h1 : Bd (10 ^ 40) (r, ps)) (h2 : Bd (10 ^ 40) s) (h3 : ∀ t ∈ ts, -(10 ^ 40) ≤ t ∧ t ≤ 10 ^ 40) (l1 : ps.length ≤ 8) (l2 : s.2.length ≤ 8) (l3 : ts.length ≤ 60) : reprOk (dKept r ps s ts) = true := by
  have a := sh_st h1 (by decide) l1
  have b := sh_st h2 (by decide) l2
  have c : Sh ts.length 1 (dI ts) := .dI fun x hx => nab (h3 x hx).1 (h3 x hx).2 (by decide)
  exact sh_ok (Sh.list (ShAll.cons2 a (ShAll.cons2 b (ShAll.cons2 c .nil0)))) (by omega) (by decide)
theorem ok_trail {ps : List Int} {s : Stt} {ts : List Int} (hp : ∀ p ∈ ps, 0 ≤ p) (l1 : ps.length ≤ 8) (hs : Bd (10 ^ 40) s) (l2 : s.2.length = ps.length) (h3 : ∀ t ∈ ts, -(10 ^ 40) ≤ t ∧ t ≤ 10 ^ 40) (l3 : ts.length ≤ 60) : reprOk (.list ((trailS ps s ts).map dSt)) = true ∧ reprOk (dSt (endS ps s ts)) = true ∧ SeqAt.shaped (.list ((trailS ps s ts).map dSt)) = true := by
  have k := trail_bd hp (by decide) hs h3
  have m : (10 : Int) ^ 40 + 10 ^ 40 * ts.length < 10 ^ 50 := by omega
  have a : Sh 10 2 (dSt (endS ps s ts)) := sh_st k.2 m (by rw [endS_len ps ts s l2]; exact l1)
  have b := shA_map (f := dSt) (w := 10) (d := 2) fun z hz => sh_st (k.1 z hz) m (by rw [trail_len l2 z hz]; exact l1)
  rw [trailS_len] at b
  exact ⟨sh_ok (Sh.list b) (by omega) (by decide), sh_ok a (by decide) (by decide), (Sh.list b).shaped (by decide)⟩
section
variable {T : Str → Option Fn} {k : Nat} {h : Mm} {Q : Vl → Mm → Prop}
theorem pu_turned_state' {r d : Int} {ps xs ts : List Int} (t : T05 T) (hr : 2 ≤ r) (hP : Plays ps) (hs : Stand d ps xs) (hts : Turns ts) : Pu T (k + 6) "turned_state" [vP r ps, vP d xs, vL ts] (vS (endS ps (d, xs) ts)) := fun h =>
  sp_turned_state (k := k) (X := vL xs) t (.inl rfl) hr hP hs hts fun p h' x lo g => (pu_endT x lo g isPL_ints : PuE h h' _ _)
theorem ne_nil_t {h : Mm} {a : Nat} {x : PyData} {xs : List PyData} (h1 : snap 8 h (.cell a) = some (.list (x :: xs))) (s : SeqAt.shaped (.list (x :: xs)) = true) : cmpV .ne (.cell a) (.lst []) h = .ok (.bl true) h := by
  rw [l_ne h1 (sn_lst snL_nil) s (by rfl)]; rfl
theorem ne_nil_f {h : Mm} {a : Nat} (h1 : h[a]? = some []) : cmpV .ne (.cell a) (.lst []) h = .ok (.bl false) h := by
  rw [l_ne (sn_cell h1 snL_nil) (sn_lst snL_nil) (by rfl) (by rfl)]; rfl
theorem ne_nil_l {h : Mm} : cmpV .ne (.lst []) (.lst []) h = .ok (.bl false) h := by
  rw [l_ne (sn_lst snL_nil) (sn_lst snL_nil) (by rfl) (by rfl)]; rfl
theorem snL_vS {n : Nat} {h : Mm} {ss : List Stt} : snapL (snap (n + 2) h) (ss.map vS) = some (ss.map dSt) := snL_map (fun s => sn_vP) ss
/-- the last of what is due -/
theorem last_due {C : Str → List Vl → Mm → R Vl} {p : Nat} {d : Int} {ps xs ts : List Int} {a0 a1 a3 a4 : Option Vl} {rest : Ev} {Q : Vl → Mm → Prop} (g : h[p]? = some ((trailS ps (d, xs) ts).map vS)) (okS : SeqAt.shaped (.list ((trailS ps (d, xs) ts).map dSt)) = true)
    (z : Q (vS (endS ps (d, xs) ts)) h) : (ev C (.ite (.tru (.cmp .ne (.loc 5) (.fls []))) (.ix (.loc 5) (.neg (.int 1))) (.loc 2)) (a0 :: a1 :: some (vP d xs) :: a3 :: a4 :: some (.cell p) :: rest) h).wp Q := by
  rcases List.eq_nil_or_concat ts with e | ⟨us, u, e⟩
  · subst e
    have g' : h[p]? = some [] := g
    have cm := ne_nil_f g'
    have z' : Q (vP d xs) h := z
    clear z g
    repeat walk_at "go"
  · rw [List.concat_eq_append] at e
    subst e
    rw [trailS_snoc, List.map_append] at g okS
    rw [endS_snoc] at z
    have s1 := sn_cell (n := 7) g (by rw [← List.map_append]; exact snL_vS (n := 5))
    have cm : cmpV .ne (.cell p) (.lst []) h = .ok (.bl true) h := by
      rcases hx : ((trailS ps (d, xs) us).map dSt ++ [stepS ps (endS ps (d, xs) us) u].map dSt) with _ | ⟨x, l⟩
      · simp at hx
      · rw [List.map_append, hx] at s1
        rw [hx] at okS
        exact ne_nil_t s1 okS
    have la : atI ((trailS ps (d, xs) us).map vS ++ [vS (stepS ps (endS ps (d, xs) us) u)]) (-1) = some (vS (stepS ps (endS ps (d, xs) us) u)) := atI_end
    simp only [List.map_cons, List.map_nil] at g
    clear s1 okS
    generalize (trailS ps (d, xs) us).map vS ++ [vS (stepS ps (endS ps (d, xs) us) u)] = vt at *
    repeat walk_at "go"
theorem sIx_nat {len d n : Nat} (hn : n ≤ len) : HT.sIx len d (some (n : Int)) = n := by
  unfold HT.sIx
  simp
  rw [if_neg (by omega)]
  exact Nat.min_eq_left hn
theorem cut_take {α : Type} {xs : List α} {s : Int} (h0 : 0 ≤ s) (h1 : s ≤ xs.length) : Dl.cutD xs none (some s) = xs.take s.toNat := by
  obtain ⟨n, rfl⟩ := Int.eq_ofNat_of_zero_le h0
  have e2 : HT.sIx xs.length 0 none = 0 := rfl
  unfold Dl.cutD
  rw [sIx_nat (by omega), e2]
  simp
theorem cut_drop {α : Type} {xs : List α} {s : Int} (h0 : 0 ≤ s) (h1 : s ≤ xs.length) : Dl.cutD xs (some s) none = xs.drop s.toNat := by
  obtain ⟨n, rfl⟩ := Int.eq_ofNat_of_zero_le h0
  have e2 : HT.sIx xs.length xs.length none = xs.length := rfl
  unfold Dl.cutD
  rw [sIx_nat (by omega), e2]
  exact List.take_of_length_le (by rw [List.length_drop]; omega)
theorem end_stand {ps : List Int} (hp : ∀ p ∈ ps, 0 ≤ p) : ∀ (ts : List Int) {s : Stt}, Stand s.1 ps s.2 → Stand (endS ps s ts).1 ps (endS ps s ts).2
  | [], _, h => h
  | t :: ts, s, h => end_stand hp ts (s := stepS ps s t) (step_stand h hp)
theorem dr_right {c : Nat} {r d : Int} {ps xs ts : List Int} (t : T05 T) (hr : 2 ≤ r) (hr2 : r ≤ 10 ^ 31) (hP : Plays ps) (hB : ∀ x ∈ ps, x ≤ 10 ^ 32) (hs : Stand d ps xs) (hd : -(10 ^ 33) ≤ d ∧ d ≤ 10 ^ 33) (hts : Turns ts) (tb : TurnsB (10 ^ 34) ts) :
    Dr T (k + 7) "_law_right" [.cell c, vP r ps, vP d xs, vL ts] c 210 fun y => y = .bl true := dr_mk t.right rfl (by decide) fun h j cs hj => by
  have hT := draw_coil t.draw
  have hm := hP.most
  have hl := hs.len
  have h60 := hts.1
  have hb4 : ∀ t ∈ ts, -(10 ^ 40) ≤ t ∧ t ≤ 10 ^ 40 := fun t ht => by have := tb t ht; omega
  have xb := hs.bd (m := 10 ^ 32) fun p hp => ⟨hP.nn p hp, hB p hp⟩
  have b1 : Bd (10 ^ 40) (r, ps) := ⟨⟨by omega, by omega⟩, fun x hx => by have := hB x hx; have := hP.nn x hx; omega⟩
  have b2 : Bd (10 ^ 40) (d, xs) := ⟨⟨by omega, by omega⟩, fun x hx => by have := xb x hx; omega⟩
  have okK := ok_kept (ps := ps) (s := (d, xs)) b1 b2 hb4 hm (by rw [hl]; exact hm) h60
  obtain ⟨okD, okE, okS⟩ := ok_trail (s := (d, xs)) hP.nn hm b2 hl hb4 h60
  have sK : ∀ h' : Mm, snap 8 h' (.lst [vP r ps, vP d xs, vL ts]) = some (dKept r ps (d, xs) ts) := fun h' => sn_lst (snL_cons sn_vP (snL_cons sn_vP (snL_cons sn_vL snL_nil)))
  clear hb4 xb b1 b2
  simp only [ir_law_right_4]
  generalize hK : dKept r ps (d, xs) ts = dK at *
  clear hK
  have lu : ∀ {C : Str → List Vl → Mm → R Vl} {p : Nat} {a0 a1 a3 a4 : Option Vl} {rest : Ev} {Q : Vl → Mm → Prop} {h' : Mm}, h'[p]? = some ((trailS ps (d, xs) ts).map vS) → Q (vS (endS ps (d, xs) ts)) h' → (ev C (.ite (.tru (.cmp .ne (.loc 5) (.fls []))) (.ix (.loc 5) (.neg (.int 1))) (.loc 2)) (a0 :: a1 :: some (vP d xs) :: a3 :: a4 :: some (.cell p) :: rest) h').wp Q := fun g z => last_due g okS z
  have sE : ∀ h' : Mm, snap 8 h' (vS (endS ps (d, xs) ts)) = some (dSt (endS ps (d, xs) ts)) := fun _ => sn_vP
  have ct : ∀ n : Nat, endS ps (endS ps (d, xs) (ts.take n)) (ts.drop n) = endS ps (d, xs) ts := fun n => by unfold endS; rw [← List.foldl_append, List.take_append_drop]
  generalize hLE : (E.ite (.tru (.cmp .ne (.loc 5) (.fls []))) (.ix (.loc 5) (.neg (.int 1))) (.loc 2)) = LE at lu ⊢
  clear hLE
  repeat walk_at "goc"
  rename_i p h2 e1 e2 e3 e4 e5 cs2 e7
  refine for_map _ (fun us ρ h' => ∃ a, ρ = [some (.cell c), some (vP r ps), some (vP d xs), some (vL ts), some (.str dK.shown), some (.cell p), some (vS (endS ps (d, xs) us)), a, none, none, none, none] ∧ us.length ≤ 60 ∧ p < h'.length ∧ h'[p]? = some ((trailS ps (d, xs) us).map vS) ∧ CS h h' c j) ⟨none, rfl, by simp, by omega, e3, cs2⟩ ?_ ?_
  · rintro us u ws ρ h' e ⟨a, rfl, l, lp, g, cs'⟩
    have len := congrArg List.length e
    simp only [List.length_append, List.length_cons] at len
    clear e okK okD okE okS sK sE lu ct
    have tl : ((trailS ps (d, xs) us).map vS).length = us.length := by rw [List.length_map, trailS_len]
    refine ⟨_, rfl, ?_⟩
    walk_at "run"
    refine pu_use (pu_law_turned (k := k + 5) t.lturned (endS_len ps us (d, xs) hl) (by omega)) ?_
    have nx : (trailS ps (d, xs) us).map vS ++ [vS (stepS ps (endS ps (d, xs) us) u)] = (trailS ps (d, xs) (us ++ [u])).map vS := by rw [trailS_snoc]; simp
    generalize (trailS ps (d, xs) us).map vS = tr at g tl nx
    repeat walk_at "goc"
    rename_i h3 g1 g2 g3 cs3
    exact ⟨some (.int u), by rw [endS_snoc], by simp; omega, by first | trivial | omega, by first | trivial | exact nx, by first | trivial | exact cs3⟩
  · rintro ρ h3 ⟨a, rfl, l, lp, g, cs3⟩
    clear cs2 e1 e2 e3 e4
    walk_at "run"
    refine sp_state_trail (k := k + 1) (X := vL xs) t (.inl rfl) hr hP hs hts fun pq as h4 x4 tr => ?_
    have g4 := x4.get g
    have x4l := x4.len
    have h3l := cs3.len
    have lo := tr.lo
    have cs4 := cs3.ext x4
    have s1 : snap 8 h4 (.cell pq) = some (.list ((trailS ps (d, xs) ts).map dSt)) := sn_tr tr
    have s2 : snap 8 h4 (.cell p) = some (.list ((trailS ps (d, xs) ts).map dSt)) := sn_cell g4 (snL_vS (n := 5))
    have trq := tr.q
    have at4 := tr.at_
    have nd := tr.nd
    have nas : ∀ m : Nat, m ≤ pq → m ∉ as := fun m hm hz => by have := tr.up m hz; omega
    have sl : ∀ s ∈ trailS ps (d, xs) ts, s.2.length = ps.length := trail_len (s := (d, xs)) hl
    have tl : (vTr as (trailS ps (d, xs) ts)).length ≤ 60 := by rw [vTr_len at4.len, trailS_len]; exact h60
    generalize hD : PyData.list ((trailS ps (d, xs) ts).map dSt) = dD at *
    clear hD okS tr
    have php : h.length ≤ p := e7
    have lp4 := lt_of_get g4
    have lpq := lt_of_get trq
    generalize hvs : vTr as (trailS ps (d, xs) ts) = vs at *
    generalize (trailS ps (d, xs) ts).map vS = due at *
    repeat walk_at "goc"
    refine for_inv (fun pre ρ h' => ∃ b', ρ = [some (.cell c), some (vP r ps), some (vP d xs), some (vL ts), some (.str dK.shown), some (.cell p), some (vS (endS ps (d, xs) ts)), a, some (.cell pq), b', none, none] ∧ CS h h' c j ∧ h'.length = h4.length ∧ (∀ m : Nat, m ∉ as → h'[m]? = h4[m]?) ∧ (∀ j p : Nat, as[j]? = some p → pre.length ≤ j → h'[p]? = h4[p]?) ∧ (∀ j p : Nat, as[j]? = some p → j < pre.length → ∃ ys, h'[p]? = some ys ∧ ys.length = ps.length + 1)) ?_ ?_ ?_ ?_
    · exact ⟨none, rfl, cs4, rfl, fun _ _ => rfl, fun _ _ _ _ => rfl, fun _ _ _ hz => by simp at hz⟩
    · rintro pre ρ h' ⟨b', rfl, m0, m1, m2, m3, m4⟩; exact still_1 (by rw [m2 pq (nas pq (by omega))]; exact trq)
    · rintro pre x post ρ h' e ⟨b', rfl, cs', m1, m2, m3, m4⟩
      obtain ⟨s, p', v1, v2, v3, v4⟩ := vTr_at (i := pre.length) (x := x) at4 (by rw [hvs, e]; simp)
      subst v3
      have v5 : h'[p']? = some (vI s.2) := by rw [m3 _ _ v2 (by omega)]; exact v4
      have v6 : (vI s.2).length = ps.length := by rw [List.length_map]; exact sl s (List.mem_of_getElem? v1)
      have v7 := lt_of_get v5
      have v8 : h.length ≤ p' := by
        rcases Nat.lt_or_ge pq p' with z | z
        · omega
        · exact absurd (List.mem_of_getElem? v2) (nas p' z)
      have fin : ∀ h6 : Mm, h6.length = h'.length → h6[p']? = some (vI s.2 ++ [.non]) → (∀ m : Nat, m ≠ p' → h6[m]? = h'[m]?) → h6.length = h4.length ∧ (∀ m : Nat, m ∉ as → h6[m]? = h4[m]?) ∧ (∀ j p : Nat, as[j]? = some p → (pre ++ [vQ s.1 p']).length ≤ j → h6[p]? = h4[p]?) ∧ (∀ j p : Nat, as[j]? = some p → j < (pre ++ [vQ s.1 p']).length → ∃ ys, h6[p]? = some ys ∧ ys.length = ps.length + 1) := by
        intro h6 o1 o2 o3
        have ea : (pre ++ [vQ s.1 p']).length = pre.length + 1 := by simp
        refine ⟨by omega, fun m hm => ?_, fun j p hj hl => ?_, fun j p hj hl => ?_⟩
        · rw [o3 m (fun z => hm (z ▸ List.mem_of_getElem? v2)), m2 m hm]
        · rw [ea] at hl
          rw [o3 p (fun z => by have := nd_idx nd (z ▸ hj) v2; omega), m3 j p hj (by omega)]
        · rw [ea] at hl
          by_cases hz : j = pre.length
          · subst hz
            have : p = p' := by rw [hj] at v2; exact Option.some.inj v2
            subst this
            exact ⟨_, o2, by rw [List.length_append, v6]; rfl⟩
          · obtain ⟨ys, y1, y2⟩ := m4 j p hj (by omega)
            exact ⟨ys, by rw [o3 p (fun z => hz (nd_idx nd (z ▸ hj) v2))]; exact y1, y2⟩
      refine ⟨_, rfl, ?_⟩
      clear m2 m3 m4 lu sK s1 s2 sE ct
      repeat walk_at "goc"
      rename_i h6 o1 o2 o3 cs6
      obtain ⟨w1, w2, w3, w4⟩ := fin h6 o1 o2 o3
      exact ⟨_, rfl, by first | trivial | exact cs6, by first | trivial | exact w1, w2, w3, w4⟩
    · rintro ρ h6 ⟨b', rfl, cs6, m1, m2, m3, m4⟩
      have q6 : h6[pq]? = some vs := by rw [m2 pq (nas pq (by omega))]; exact trq
      have g6 : h6[p]? = some due := by rw [m2 p (nas p (by omega))]; exact g4
      clear m2 m3 s1 s2 g4 trq g x4
      repeat walk_at "goc"
      refine lc_inv (fun pre acc h' => acc = [] ∧ h' = h6) ⟨rfl, rfl⟩ ?_ ?_ ?_
      · rintro pre acc h' ⟨rfl, rfl⟩; exact ⟨still_1 q6, by decide⟩
      · rintro pre x post acc h' e ⟨rfl, rfl⟩
        obtain ⟨s, p', v1, v2, v3, v4⟩ := vTr_at (i := pre.length) (x := x) at4 (by rw [hvs, e]; simp)
        subst v3
        obtain ⟨ys, y1, y2⟩ := m4 pre.length p' v2 (by rw [e]; simp)
        have y3 : (((ys.length : Nat) : Int) == (((vI ps).length : Nat) : Int) + 1) = true := by
          rw [beq_iff_eq, y2, List.length_map]; push_cast; rfl
        clear m4 y2 lu sK sE ct
        refine ⟨_, rfl, ?_⟩
        walk_at "run"
        exact ⟨trivial, trivial⟩
      · rintro acc h' ⟨rfl, rfl⟩
        clear m4 at4 nd nas sl
        have nl := fun h => ne_nil_l (h := h)
        repeat walk_at "goc"
        refine sp_turned_state (k := k) (X := vL xs) t (.inl rfl) hr hP hs hts fun p8 h8 x8 lo8 g8 => ?_
        have cs8 := cs6.ext x8
        have g58 := x8.get g6
        have l6 := cs6.len
        have s8 : snap 8 h8 (vQ (endS ps (d, xs) ts).1 p8) = some (dSt (endS ps (d, xs) ts)) := sn_st g8
        have l8 : (vI (endS ps (d, xs) ts).2).length ≤ 8 := by rw [List.length_map, endS_len ps ts (d, xs) hl]; exact hm
        have pp8 : p ≠ p8 := by have := lt_of_get g6; omega
        have lp8 := lt_of_get g8
        clear x8 q6 g6 m1 hvs
        generalize heS : endS ps (d, xs) ts = eS at *
        repeat walk_at "goc"
        refine lu g58 ?_
        repeat walk_at "goc"
        rename_i h9 z1 z2 z3 cs9
        have g59 : h9[p]? = some due := by rw [z3 p pp8]; exact g58
        have pc : p ≠ c := by omega
        clear z1 z2 z3 cs8 g58 g8 s8 lp8
        refine dr_use (dr_parted (k := k + 4) t h60 tb (by decide)) cs9 (by omega) fun y h10 ⟨us, ey, u60, ub, eu⟩ l10 cs10 m10 => ?_
        subst ey
        have g510 := (m10 p pc).trans g59
        clear m10 l10 g59 cs9
        walk_at "run"
        refine pu_use (pu_turned_state' (k := k) t hr hP hs ⟨u60, fun t ht => (ub t ht).1⟩) ?_
        rw [eu, heS]
        clear eu
        repeat walk_at "goc"
        refine lu g510 ?_
        have tsl : (vI ts).length = ts.length := List.length_map ..
        repeat walk_at "goc"
        rename_i s11 h11 q1 q2 q3 cs11 q5
        have g511 : h11[p]? = some due := by rw [q5 p pc]; exact g510
        clear q3 q5 g510 cs10
        have sle : s11 ≤ ts.length := by omega
        rw [cut_take q1 sle]
        have hm1 : Turns (ts.take s11.toNat) := ⟨by rw [List.length_take]; omega, fun t ht => hts.2 t (List.mem_of_mem_take ht)⟩
        have hm2 : Turns (ts.drop s11.toNat) := ⟨by rw [List.length_drop]; omega, fun t ht => hts.2 t (List.mem_of_mem_drop ht)⟩
        have hs2 := end_stand hP.nn (ts.take s11.toNat) (s := (d, xs)) hs
        have ct2 := ct s11.toNat
        refine pu_use (pu_turned_state' (k := k) t hr hP hs hm1) ?_
        generalize endS ps (d, xs) (ts.take s11.toNat) = mid at *
        obtain ⟨d2, xs2⟩ := mid
        have pm := pu_turned_state' (k := k) t hr hP (show Stand d2 ps xs2 from hs2) hm2
        rw [ct2] at pm
        clear ct ct2 hm1 hs2
        repeat walk_at "goc"
        rw [cut_drop q1 sle]
        refine pu_use pm ?_
        repeat walk_at "goc"
        refine lu g511 ?_
        repeat walk_at "goc"
        exact dr_endP rfl rfl cs11 (by omega)
end
end IR

set_option Elab.async false
set_option linter.all false
set_option maxRecDepth 100000
set_option maxHeartbeats 4000000
namespace IR
open PySem PySem.Spec PyProof.Rows L2 Dl
local macro_rules | `(tactic| walk_at "run") => `(tactic| simp (disch := omega) only [↓s_nil, ↓s_cons, ↓s_tnx, ↓s_trt, ↓s_tbk, ↓s_tct, ↓s_set, ↓s_par', ↓s_tset', ↓s_setix', ↓s_ife, ↓s_for, ↓s_ret, ↓s_retN, ↓s_expr, ↓s_pass, ↓s_brk, ↓s_cont, ↓w_int, ↓w_bl, ↓w_non, ↓w_str, ↓w_loc, ↓w_bin, ↓w_cmp, ↓w_chain, ↓w_and, ↓w_or, ↓w_not, ↓w_neg, ↓w_ite, ↓w_tup', ↓w_lst', ↓w_ix, ↓w_slice, ↓w_o0, ↓w_o1, ↓w_call, ↓w_callk, ↓w_bi, ↓w_isi, ↓w_app, ↓w_lc, ↓w_nil, ↓w_cons, ↓t_and, ↓t_or, ↓t_not, ↓t_tru, ↓i_over', ↓i_rng1', ↓i_rng2', ↓i_rng3', ↓i_zip', ↓i_enum', ↓wp_ok, ↓wp_next, ↓wp_ret, ↓wp_brk, ↓wp_cont, ↓at_z, ↓at_s, ↓onB_bl, ↓onI_int, ↓onC_cell, ↓onT_bl, ↓onT_non, ↓onT_cell', ↓onT_tup, ↓br_t, ↓br_f, ↓if_t, ↓onO_some, ↓itO_cell, ↓itO_tup, ↓itO_frz, seq_cell, seq_frz, watch_cell, watch_frz, List.set_cons_zero, List.set_cons_succ, List.map_cons, List.map_nil, List.cons_append, List.nil_append, List.append_nil, List.replicate_succ, List.replicate_zero, asgT, asgTs, Option.some.injEq, exists_eq_left', exists_eq_left, l_add, l_sub, ↓l_mul, ↓l_fdiv, ↓l_mod, ↓l_pow, ↓l_lt, ↓l_le, ↓l_gt, ↓l_ge, ↓l_eqI, ↓l_neI, ↓l_eqS, ↓l_neS, ↓l_isN, ↓l_isnN, ↓l_cat, ↓l_rep, isi_non_int, isi_non_bool, isi_non_str, isi_non_list, isi_non_tuple, isi_bl_int, isi_bl_bool, isi_bl_str, isi_bl_list, isi_bl_tuple, isi_int_int, isi_int_bool, isi_int_str, isi_int_list, isi_int_tuple, isi_str_int, isi_str_bool, isi_str_str, isi_str_list, isi_str_tuple, isi_tup_int, isi_tup_bool, isi_tup_str, isi_tup_list, isi_tup_tuple, isi_cell_int, isi_cell_bool, isi_cell_str, isi_cell_list, isi_cell_tuple, isi_frz_int, isi_frz_bool, isi_frz_str, isi_frz_list, isi_frz_tuple, ↓l_len, ↓l_lenT, ↓l_lenF, ↓l_abs, ↓l_max, ↓l_min, ↓l_toInt, ↓l_toIntB, ↓l_list, ↓l_tupT, ↓l_tupC, ↓l_sum, ↓l_all, ↓l_reprC, ↓l_reprT, Bool.not_true, Bool.not_false, List.getD_cons_zero, List.getD_cons_succ, ↓l_ixc, ↓l_ixt, ↓l_ixf, atI_0, atI_1, atI_2, atI_3, atI_end, ↓l_app, ↓l_slice, ixN_0, ixN_1, ixN_2, ↓tvL, wipeE, List.length_cons, List.length_nil, Nat.reduceAdd, Nat.reduceSub, Nat.reduceLeDiff, List.isEmpty_nil, List.isEmpty_cons, Int.reduceToNat, Int.reducePow, Int.reduceAdd, Int.reduceSub, Int.reduceMul, Int.reduceNeg, Int.reduceLT, Int.reduceLE, Bool.true_and, Bool.and_true, asInts_map, asBools_map, decide_true, decide_false, ↓onT_int, ↓onT_lst, ↓w_frz, ↓w_fls, ↓w_fcall, ↓w_fcallk, ↓fz_same, ↓fz_nw, isP_int, isP_bl, isP_str, isP_non, isP_frz, isP_cell, Bool.false_and, Bool.and_false, isP_lst, isP_tup, isPL_nil, isPL_cons, isPL_ints, isPL_bls, ↓l_lenL, ↓l_listL, ↓l_listT, ↓l_listF, ↓l_tupL, ↓l_sumL, ↓l_allL, ↓l_reprL, ↓l_maxL, ↓l_minL, ↓l_reprI, cutD_map, ↓l_ixl, ↓l_catL, ↓l_catC, ↓l_sliceL, ↓l_sliceF, ↓itO_lst, seq_lst, watch_lst, isi_lst_int, isi_lst_bool, isi_lst_str, isi_lst_list, isi_lst_tuple, sn8_vL, ↓l_eqL, ↓l_neL, decide_self, *])
local macro_rules | `(tactic| walk_at "runh") => `(tactic| simp (disch := omega) only [↓s_nil, ↓s_cons, ↓s_tnx, ↓s_trt, ↓s_tbk, ↓s_tct, ↓s_set, ↓s_par', ↓s_tset', ↓s_setix', ↓s_ife, ↓s_for, ↓s_ret, ↓s_retN, ↓s_expr, ↓s_pass, ↓s_brk, ↓s_cont, ↓w_int, ↓w_bl, ↓w_non, ↓w_str, ↓w_loc, ↓w_bin, ↓w_cmp, ↓w_chain, ↓w_and, ↓w_or, ↓w_not, ↓w_neg, ↓w_ite, ↓w_tup', ↓w_lst', ↓w_ix, ↓w_slice, ↓w_o0, ↓w_o1, ↓w_call, ↓w_callk, ↓w_bi, ↓w_isi, ↓w_app, ↓w_lc, ↓w_nil, ↓w_cons, ↓t_and, ↓t_or, ↓t_not, ↓t_tru, ↓i_over', ↓i_rng1', ↓i_rng2', ↓i_rng3', ↓i_zip', ↓i_enum', ↓wp_ok, ↓wp_next, ↓wp_ret, ↓wp_brk, ↓wp_cont, ↓at_z, ↓at_s, ↓onB_bl, ↓onI_int, ↓onC_cell, ↓onT_bl, ↓onT_non, ↓onT_cell', ↓onT_tup, ↓br_t, ↓br_f, ↓if_t, ↓onO_some, ↓itO_cell, ↓itO_tup, ↓itO_frz, seq_cell, seq_frz, watch_cell, watch_frz, List.set_cons_zero, List.set_cons_succ, List.map_cons, List.map_nil, List.cons_append, List.nil_append, List.append_nil, List.replicate_succ, List.replicate_zero, asgT, asgTs, Option.some.injEq, exists_eq_left', exists_eq_left, l_add, l_sub, ↓l_mul, ↓l_fdiv, ↓l_mod, ↓l_pow, ↓l_lt, ↓l_le, ↓l_gt, ↓l_ge, ↓l_eqI, ↓l_neI, ↓l_eqS, ↓l_neS, ↓l_isN, ↓l_isnN, ↓l_cat, ↓l_rep, isi_non_int, isi_non_bool, isi_non_str, isi_non_list, isi_non_tuple, isi_bl_int, isi_bl_bool, isi_bl_str, isi_bl_list, isi_bl_tuple, isi_int_int, isi_int_bool, isi_int_str, isi_int_list, isi_int_tuple, isi_str_int, isi_str_bool, isi_str_str, isi_str_list, isi_str_tuple, isi_tup_int, isi_tup_bool, isi_tup_str, isi_tup_list, isi_tup_tuple, isi_cell_int, isi_cell_bool, isi_cell_str, isi_cell_list, isi_cell_tuple, isi_frz_int, isi_frz_bool, isi_frz_str, isi_frz_list, isi_frz_tuple, ↓l_len, ↓l_lenT, ↓l_lenF, ↓l_abs, ↓l_max, ↓l_min, ↓l_toInt, ↓l_toIntB, ↓l_list, ↓l_tupT, ↓l_tupC, ↓l_sum, ↓l_all, ↓l_reprC, ↓l_reprT, Bool.not_true, Bool.not_false, List.getD_cons_zero, List.getD_cons_succ, ↓l_ixc, ↓l_ixt, ↓l_ixf, atI_0, atI_1, atI_2, atI_3, atI_end, ↓l_app, ↓l_slice, ixN_0, ixN_1, ixN_2, ↓tvL, wipeE, List.length_cons, List.length_nil, Nat.reduceAdd, Nat.reduceSub, Nat.reduceLeDiff, List.isEmpty_nil, List.isEmpty_cons, Int.reduceToNat, Int.reducePow, Int.reduceAdd, Int.reduceSub, Int.reduceMul, Int.reduceNeg, Int.reduceLT, Int.reduceLE, Bool.true_and, Bool.and_true, asInts_map, asBools_map, decide_true, decide_false, ↓onT_int, ↓onT_lst, ↓w_frz, ↓w_fls, ↓w_fcall, ↓w_fcallk, ↓fz_same, ↓fz_nw, isP_int, isP_bl, isP_str, isP_non, isP_frz, isP_cell, Bool.false_and, Bool.and_false, isP_lst, isP_tup, isPL_nil, isPL_cons, isPL_ints, isPL_bls, ↓l_lenL, ↓l_listL, ↓l_listT, ↓l_listF, ↓l_tupL, ↓l_sumL, ↓l_allL, ↓l_reprL, ↓l_maxL, ↓l_minL, ↓l_reprI, cutD_map, ↓l_ixl, ↓l_catL, ↓l_catC, ↓l_sliceL, ↓l_sliceF, ↓itO_lst, seq_lst, watch_lst, isi_lst_int, isi_lst_bool, isi_lst_str, isi_lst_list, isi_lst_tuple, sn8_vL, ↓l_eqL, ↓l_neL, decide_self, *] at this)
local macro_rules | `(tactic| walk_at "line") => `(tactic| (first | (with_reducible apply decide_eq_true; exact Nat.le_trans (by first | (simp only [List.length_cons, List.length_nil, List.length_append, List.length_map, List.length_range]; omega) | omega) (by decide : 100000 ≤ sizeLine)) | (with_reducible apply decide_eq_true; exact Nat.lt_of_le_of_lt (by first | (simp only [List.length_cons, List.length_nil, List.length_append, List.length_map, List.length_range]; omega) | omega) (by decide : 100000 < sizeLine)) | (with_reducible exact line_le (by omega)) | (with_reducible exact line_lt (by omega))))
local macro_rules | `(tactic| walk_at "num") => `(tactic| (first | (simp only [big, wid, small, Bool.and_eq_true, decide_eq_true_eq]; omega) | (simp only [big, wid, small, Bool.and_eq_true, decide_eq_true_eq]; refine ⟨?_, ?_⟩ <;> omega)))
local macro_rules | `(tactic| walk_at "go") => `(tactic| first | walk_at "run" | (with_reducible refine nw_mk fun p h2 e1 e2 e3 e4 => ?_) | ((with_reducible refine up_mk ?up fun h2 e1 e2 e3 => ?_); (case up => omega)) | ((with_reducible refine if_mk ?gu ?_); (case gu => first | walk_at "num" | walk_at "line")))
local macro_rules | `(tactic| walk_at "goc") => `(tactic| first | walk_at "run" | ((with_reducible apply nw_cs); (case hc => assumption); intro p h2 e1 e2 e3 e4 e5 e6 e7) | ((with_reducible apply up_cs); (case hc => assumption); (case up => omega); (case ge => omega); intro h2 e1 e2 e3 e4) | ((with_reducible apply dr_cs); (case hT => assumption); (case hc => assumption); (case hm => omega); (case hm2 => omega); (case hk => omega); intro r h2 e1 e2 e3 e4 e5) | ((with_reducible refine if_mk ?gu ?_); (case gu => first | walk_at "num" | walk_at "line")))
section
variable {T : Str → Option Fn} {k : Nat} {h : Mm} {Q : Vl → Mm → Prop}
theorem sp_coil0 {i : Int} (hT : T "_law_coil" = some ir_law_coil) (h0 : 0 ≤ i) (h1 : i ≤ 100) (q : ∀ (c : Nat) (h' : Mm), h.length = c → h'.length = c + 1 → CoilAt h' c 0 → (∀ m : Nat, m < c → h'[m]? = h[m]?) → Q (.cell c) h') : (call T (k + 1) "_law_coil" [.lst [], .int i] h).wp Q := by
  refine call_wp hT rfl (by decide) ?_
  simp only [ir_law_coil]
  have fin : ∀ (x v : Int) (p : Nat) (h2 : Mm), h.length = p → h2.length = p + 1 → h2[p]? = some [.int (max 0 x), .int (v % 10000000000000000000000013 + 60013 * (i + 1)), .int 0] → (∀ m : Nat, m < p → h2[m]? = h[m]?) → Q (.cell p) h2 := fun x v p h2 e1 e2 e3 e4 => by
    have m1 := Int.emod_nonneg v (show (10000000000000000000000013 : Int) ≠ 0 by decide)
    have m2 := Int.emod_lt_of_pos v (show (0 : Int) < 10000000000000000000000013 by decide)
    exact q p h2 e1 e2 ⟨_, _, _, e3, by omega, by omega, by omega, by omega, by omega⟩ e4
  clear q
  walk_at "run"
  refine br_mk (fun hp => ?_) (fun hp => ?_)
  · rw [decide_eq_true_eq] at hp
    exfalso
    first | omega | (simp at hp; omega)
  · repeat walk_at "go"
    all_goals (rename_i p h2 e1 e2 e3 e4; exact fin (_ : Int) 0 p h2 e1 e2 e3 e4)
def dbl (x y : Int) : List Int := (List.replicate 30 [x, y]).flatten
theorem dbl_mem {x y t : Int} (h : t ∈ dbl x y) : t = x ∨ t = y := by
  obtain ⟨l, hl, ht⟩ := List.mem_flatten.mp h
  rw [(List.mem_replicate.mp hl).2] at ht
  simpa using ht
theorem dbl_turns {x y : Int} (hx : x ≠ 0) (hy : y ≠ 0) : Turns (dbl x y) := ⟨by simp [dbl], fun t ht => by rcases dbl_mem ht with rfl | rfl <;> assumption⟩
theorem plays8 {x : Int} (h : 0 ≤ x) : Plays [x, x, x, x, x, x, x, x] := ⟨by simp, by simp, fun y hy => by simp at hy; omega⟩
theorem stand8 {x : Int} (h : 0 ≤ x) : Stand 0 [x, x, x, x, x, x, x, x] [0, 0, 0, 0, 0, 0, 0, 0] := by simp [Stand, h]
theorem law05 {ns : List Int} {kk : Nat} (t : T05 T) (hn : ns.length ≤ 63) : (call T (kk + 8) "law" [.frz ns] h).wp fun v _ => v = .bl true := by
  have hT := draw_coil t.draw
  refine call_wp t.law rfl (by decide) ?_
  simp only [ir_law_5]
  repeat walk_at "go"
  refine for_rng (fun i ρ h' => ∃ a b e f g u v, ρ = [some (.frz ns), a, b, e, f, g, u, v]) ⟨_, _, _, _, _, _, _, rfl⟩ ?_ ?_
  · rintro i ρ h' hi ⟨a, b, e, f, g, u, v, rfl⟩
    have hi8 : i ≤ 100 := by omega
    clear hi
    refine ⟨_, rfl, ?_⟩
    walk_at "run"
    refine sp_coil (k := kk + 6) t.coil (by omega) (by omega) fun c h1 l0 l1 cc x4 => ?_
    have cs0 := CS.start cc
    clear l0 l1 cc x4
    repeat walk_at "goc"
    refine for_rng (fun j ρ h' => ∃ e f g u v, ρ = [some (.frz ns), some (.int i), some (.cell c), e, f, g, u, v] ∧ CS h1 h' c (0 + 999 * j)) ⟨_, _, _, _, _, rfl, cs0⟩ ?_ ?_
    · rintro j ρ h2 hj ⟨e, f, g, u, v, rfl, cs⟩
      have hj4 : j < 3 := hj
      clear hj cs0
      refine ⟨_, rfl, ?_⟩
      repeat walk_at "goc"
      rename_i s1 h3 b1 b2 b3 cs3 b5
      refine ix_menu [30, 1000000000000000000000000000] (fun v => 1 ≤ v ∧ v ≤ 10 ^ 30) (by omega) (by simp; omega) (by simp) fun fa hf => ?_
      walk_at "run"
      refine dr_use (dr_pack (k := kk + 5) t.toTCo (by omega) (by omega) hf.1 hf.2) cs3 (by omega) fun y h4 ⟨r, ps, ey, r2, r31, hP, hB⟩ _ cs4 _ => ?_
      subst ey
      clear cs3 b1 b2 b3 b5
      repeat walk_at "goc"
      rename_i s2 h5 b1 b2 b3 cs5 b5
      refine ix_menu [99, 100000000000000000000000000000] (fun v => 1 ≤ v ∧ v ≤ 10 ^ 33) (by omega) (by simp; omega) (by simp) fun fb hb => ?_
      walk_at "run"
      refine dr_use (dr_stand (k := kk + 5) t.toTCo hP hB hb.1 hb.2) cs5 (by omega) fun y h6 ⟨d, xs, ey, hs, d1, d2⟩ _ cs6 _ => ?_
      subst ey
      clear cs4 cs5 b1 b2 b3 b5
      have dd : -(10 ^ 33) ≤ d ∧ d ≤ 10 ^ 33 := by omega
      repeat walk_at "goc"
      rename_i s3 h7 b1 b2 b3 cs7 b5
      refine ix_menu [4 * r, 1000000000000000000000000000] (fun v => 1 ≤ v ∧ v ≤ 10 ^ 33) (by omega) (by simp; omega) (by simp; omega) fun far hfar => ?_
      clear cs6 b1 b2 b3 b5
      repeat walk_at "goc"
      rename_i s4 h8 b1 b2 b3 cs8 b5
      refine ix_menu [5, 60, 30] (fun v => 0 ≤ v ∧ v ≤ 60) (by omega) (by simp; omega) (by simp) fun cnt hcnt => ?_
      walk_at "run"
      refine dr_use (dr_swings (k := kk + 5) t hP r2 r31 hB hcnt.1 hcnt.2 hfar.1 hfar.2) cs8 (by omega) fun y h9 ⟨ts, ey, l9, tb9⟩ _ cs9 _ => ?_
      subst ey
      walk_at "run"
      refine dr_use (dr_right (k := kk) t r2 r31 hP hB hs dd ⟨by omega, fun t ht => (tb9 t ht).1⟩ tb9) cs9 (by omega) fun y h10 ey _ cs10 _ => ?_
      subst ey
      walk_at "run"
      exact ⟨_, _, _, _, _, rfl, cs10.le (by omega)⟩
    · rintro ρ h2 ⟨e, f, g, u, v, rfl, cs⟩
      exact ⟨_, _, _, _, _, _, _, rfl⟩
  · rintro ρ h' ⟨a, b, e, f, g, u, v, rfl⟩
    have r8 : ∀ x : Int, repL [.int x] 8 = vI [x, x, x, x, x, x, x, x] := fun _ => rfl
    have r30 : ∀ x y : Int, repL [.int x, .int y] 30 = vI (dbl x y) := fun _ _ => rfl
    repeat (first | walk_at "run" | ((with_reducible refine if_mk ?gu ?_); (case gu => first | walk_at "num" | walk_at "line")))
    refine nw_mk fun p h2 e1 e2 e3 e4 => ?_
    walk_at "run"
    refine if_mk (by first | decide | (simp only [small, Bool.and_eq_true, decide_eq_true_eq]; exact ⟨by decide, Nat.le_trans (by decide) (by decide : 100 ≤ sizeLine)⟩)) ?_
    refine nw_mk fun p2 h3 f1 f2 f3 f4 => ?_
    simp only [r8, r30] at f3
    refine fz_ext (fz_c (by omega) f3 isPL_ints) ((Ext.new e1 e2 e4).trans (.new f1 f2 f4)) ?_
    clear f1 f2 f3 f4
    clear p2 h3
    clear e1 e2 e3 e4
    clear p h2
    repeat (first | walk_at "run" | ((with_reducible refine if_mk ?gu ?_); (case gu => first | walk_at "num" | walk_at "line")))
    refine nw_mk fun p h2 e1 e2 e3 e4 => ?_
    walk_at "run"
    refine if_mk (by first | decide | (simp only [small, Bool.and_eq_true, decide_eq_true_eq]; exact ⟨by decide, Nat.le_trans (by decide) (by decide : 100 ≤ sizeLine)⟩)) ?_
    refine nw_mk fun p2 h3 f1 f2 f3 f4 => ?_
    simp only [r8, r30] at f3
    refine fz_ext (fz_c (by omega) f3 isPL_ints) ((Ext.new e1 e2 e4).trans (.new f1 f2 f4)) ?_
    clear f1 f2 f3 f4
    clear p2 h3
    clear e1 e2 e3 e4
    clear p h2
    repeat (first | walk_at "run" | ((with_reducible refine if_mk ?gu ?_); (case gu => first | walk_at "num" | walk_at "line")))
    refine sp_coil0 (k := kk + 6) t.coil (by decide) (by decide) fun c h1 l0 l1 cc x4 => ?_
    have cs0 := CS.start cc
    clear l0 l1 cc x4
    repeat (first | walk_at "run" | ((with_reducible refine if_mk ?gu ?_); (case gu => first | walk_at "num" | walk_at "line")))
    refine nw_mk fun p h2 e1 e2 e3 e4 => ?_
    walk_at "run"
    refine if_mk (by first | decide | (simp only [small, Bool.and_eq_true, decide_eq_true_eq]; exact ⟨by decide, Nat.le_trans (by decide) (by decide : 100 ≤ sizeLine)⟩)) ?_
    refine nw_mk fun p2 h3 f1 f2 f3 f4 => ?_
    simp only [r8, r30] at f3
    refine fz_ext (fz_c (by omega) f3 isPL_ints) ((Ext.new e1 e2 e4).trans (.new f1 f2 f4)) ?_
    clear f1 f2 f3 f4
    clear p2 h3
    clear e1 e2 e3 e4
    clear p h2
    repeat (first | walk_at "run" | ((with_reducible refine if_mk ?gu ?_); (case gu => first | walk_at "num" | walk_at "line")))
    refine dr_use (dr_right (k := kk) (r := 999999999999999999999999999999) (d := 0) (ps := [999999999999999999999999999999, 999999999999999999999999999999, 999999999999999999999999999999, 999999999999999999999999999999, 999999999999999999999999999999, 999999999999999999999999999999, 999999999999999999999999999999, 999999999999999999999999999999]) (xs := [0, 0, 0, 0, 0, 0, 0, 0]) (ts := dbl (999999999999999999999999999999) (-999999999999999999999999999998)) t (by decide) (by decide) (plays8 (by decide)) (fun y hy => by simp at hy; omega) (stand8 (by decide)) (by decide) (dbl_turns (by decide) (by decide)) (fun t ht => by rcases dbl_mem ht with rfl | rfl <;> omega)) cs0 (by decide) fun y h2 ey _ _ _ => ?_
    subst ey
    clear cs0
    repeat (first | walk_at "run" | ((with_reducible refine if_mk ?gu ?_); (case gu => first | walk_at "num" | walk_at "line")))
    refine nw_mk fun p h2 e1 e2 e3 e4 => ?_
    walk_at "run"
    refine if_mk (by first | decide | (simp only [small, Bool.and_eq_true, decide_eq_true_eq]; exact ⟨by decide, Nat.le_trans (by decide) (by decide : 100 ≤ sizeLine)⟩)) ?_
    refine nw_mk fun p2 h3 f1 f2 f3 f4 => ?_
    simp only [r8, r30] at f3
    refine fz_ext (fz_c (by omega) f3 isPL_ints) ((Ext.new e1 e2 e4).trans (.new f1 f2 f4)) ?_
    clear f1 f2 f3 f4
    clear p2 h3
    clear e1 e2 e3 e4
    clear p h2
    repeat (first | walk_at "run" | ((with_reducible refine if_mk ?gu ?_); (case gu => first | walk_at "num" | walk_at "line")))
    refine nw_mk fun p h2 e1 e2 e3 e4 => ?_
    walk_at "run"
    refine if_mk (by first | decide | (simp only [small, Bool.and_eq_true, decide_eq_true_eq]; exact ⟨by decide, Nat.le_trans (by decide) (by decide : 100 ≤ sizeLine)⟩)) ?_
    refine nw_mk fun p2 h3 f1 f2 f3 f4 => ?_
    simp only [r8, r30] at f3
    refine fz_ext (fz_c (by omega) f3 isPL_ints) ((Ext.new e1 e2 e4).trans (.new f1 f2 f4)) ?_
    clear f1 f2 f3 f4
    clear p2 h3
    clear e1 e2 e3 e4
    clear p h2
    repeat (first | walk_at "run" | ((with_reducible refine if_mk ?gu ?_); (case gu => first | walk_at "num" | walk_at "line")))
    refine sp_coil0 (k := kk + 6) t.coil (by decide) (by decide) fun c h1 l0 l1 cc x4 => ?_
    have cs0 := CS.start cc
    clear l0 l1 cc x4
    repeat (first | walk_at "run" | ((with_reducible refine if_mk ?gu ?_); (case gu => first | walk_at "num" | walk_at "line")))
    refine nw_mk fun p h2 e1 e2 e3 e4 => ?_
    walk_at "run"
    refine if_mk (by first | decide | (simp only [small, Bool.and_eq_true, decide_eq_true_eq]; exact ⟨by decide, Nat.le_trans (by decide) (by decide : 100 ≤ sizeLine)⟩)) ?_
    refine nw_mk fun p2 h3 f1 f2 f3 f4 => ?_
    simp only [r8, r30] at f3
    refine fz_ext (fz_c (by omega) f3 isPL_ints) ((Ext.new e1 e2 e4).trans (.new f1 f2 f4)) ?_
    clear f1 f2 f3 f4
    clear p2 h3
    clear e1 e2 e3 e4
    clear p h2
    repeat (first | walk_at "run" | ((with_reducible refine if_mk ?gu ?_); (case gu => first | walk_at "num" | walk_at "line")))
    refine dr_use (dr_right (k := kk) (r := 100000000000000000000000000000) (d := 0) (ps := [99999999999999999999999999999, 99999999999999999999999999999, 99999999999999999999999999999, 99999999999999999999999999999, 99999999999999999999999999999, 99999999999999999999999999999, 99999999999999999999999999999, 99999999999999999999999999999]) (xs := [0, 0, 0, 0, 0, 0, 0, 0]) (ts := dbl (100000000000000000000000000000) (-99999999999999999999999999999)) t (by decide) (by decide) (plays8 (by decide)) (fun y hy => by simp at hy; omega) (stand8 (by decide)) (by decide) (dbl_turns (by decide) (by decide)) (fun t ht => by rcases dbl_mem ht with rfl | rfl <;> omega)) cs0 (by decide) fun y h2 ey _ _ _ => ?_
    subst ey
    clear cs0
    walk_at "run"
end
end IR

set_option Elab.async false
set_option linter.all false
set_option maxRecDepth 100000
set_option maxHeartbeats 4000000
open PySem PySem.Spec PyProof.Rows L2 Dl IR
namespace Lk05
def topS (i : Nat) : Stmt := PySem.Challenge.pw_dialpack_k05_turns_of_great_numbers.main.body.getD i (.Pass ⟨0, 0, 0, 0⟩)
def fi_is_integer : FnI := ⟨"is_integer", topS 9, ["value"], ["value"], [], [], false⟩
def fi_is_at_least : FnI := ⟨"is_at_least", topS 10, ["value", "least"], ["value", "least"], [], [], false⟩
def fi_is_turn : FnI := ⟨"is_turn", topS 11, ["value"], ["value"], [], [], false⟩
def fi_is_pair : FnI := ⟨"is_pair", topS 12, ["value"], ["value"], [], [], false⟩
def fi_are_plays : FnI := ⟨"are_plays", topS 13, ["value", "play"], ["value"], [], [], false⟩
def fi_are_places : FnI := ⟨"are_places", topS 14, ["plays", "dial", "value", "ahead", "play", "place"], ["plays", "dial", "value"], [], [], false⟩
def fi_check_lock : FnI := ⟨"check_lock", topS 15, ["lock", "ring", "plays"], ["lock"], [], [], false⟩
def fi_check_state : FnI := ⟨"check_state", topS 16, ["lock", "state", "dial", "places"], ["lock", "state"], [], [], false⟩
def fi_check_turns : FnI := ⟨"check_turns", topS 17, ["turns", "index", "turn"], ["turns"], [], [], false⟩
def fi_turned_once : FnI := ⟨"_turned_once", topS 19, ["lock", "state", "turn", "dial", "places", "new_dial", "new_places", "ahead", "play", "place"], ["lock", "state", "turn"], [], [6], true⟩
def fi_turned_state : FnI := ⟨"turned_state", topS 20, ["lock", "state", "turns", "trail", "dial", "places"], ["lock", "state", "turns"], [], [3], true⟩
def fi_state_trail : FnI := ⟨"state_trail", topS 21, ["lock", "state", "turns", "trail", "behind", "turn"], ["lock", "state", "turns"], [], [3, 4], true⟩
def fi_law_coil : FnI := ⟨"_law_coil", topS 23, ["script", "at", "cell"], ["script", "at"], [], [], true⟩
def fi_law_draw : FnI := ⟨"_law_draw", topS 24, ["coil", "bound", "drawn", "mixed"], ["coil", "bound"], [], [0], false⟩
def fi_law_pack : FnI := ⟨"_law_pack", topS 25, ["coil", "most", "far", "circle", "plays_here", "lap", "some"], ["coil", "most", "far"], [], [0, 4], false⟩
def fi_law_reaches : FnI := ⟨"_law_reaches", topS 26, ["pack", "found", "play"], ["pack"], [], [1], false⟩
def fi_law_stand : FnI := ⟨"_law_stand", topS 27, ["coil", "pack", "far", "knob", "spots", "ahead", "play"], ["coil", "pack", "far"], [], [0, 4], false⟩
def fi_law_swings : FnI := ⟨"_law_swings", topS 28, ["coil", "pack", "many", "far", "found", "up", "reaches", "lap", "reach", "size"], ["coil", "pack", "many", "far"], [], [0, 4], false⟩
def fi_law_turned : FnI := ⟨"_law_turned", topS 29, ["pack", "stand", "swing", "knob", "found", "ahead", "play", "spot"], ["pack", "stand", "swing"], [], [4], false⟩
def fi_law_parted : FnI := ⟨"_law_parted", topS 31, ["coil", "swings", "found", "swing", "part"], ["coil", "swings"], [], [0, 2], false⟩
def fi_law_right : FnI := ⟨"_law_right", topS 32, ["coil", "pack", "stand", "swings", "kept", "due", "here", "swing", "told", "one", "cut", "middle"], ["coil", "pack", "stand", "swings"], [], [0, 5, 8, 9], false⟩
def fi_law : FnI := ⟨"law", topS 33, ["script", "at", "coil", "lap", "pack", "stand", "far", "swings"], ["script"], [], [2], false⟩
def G : Pg := ⟨[fi_is_integer, fi_is_at_least, fi_is_turn, fi_is_pair, fi_are_plays, fi_are_places, fi_check_lock, fi_check_state, fi_check_turns, fi_turned_once, fi_turned_state, fi_state_trail, fi_law_coil, fi_law_draw, fi_law_pack, fi_law_reaches, fi_law_stand, fi_law_swings, fi_law_turned, fi_law_parted, fi_law_right, fi_law], [("LEAST_RING", 2), ("MOST_WHEELS", 8), ("MOST_TURNS", 60)], ["ValueError", "all", "zip", "enumerate", "range", "isinstance", "int", "tuple", "list", "max", "repr", "bool", "len", "min", "abs"], true, ["_law_coil"]⟩
theorem wf_is_integer : FnWf fi_is_integer where
  sc := ⟨rfl, rfl, rfl, by decide +kernel, rfl, by decide +kernel, by decide +kernel⟩
  d := by decide
  b1 := fun kV dc pm an cd ct us hl => match us, hl with | [_], _ => rfl
  b2 := fun kV dc pm an cd ct ks hk => by cases hk
theorem wf_is_at_least : FnWf fi_is_at_least where
  sc := ⟨rfl, rfl, rfl, by decide +kernel, rfl, by decide +kernel, by decide +kernel⟩
  d := by decide
  b1 := fun kV dc pm an cd ct us hl => match us, hl with | [_, _], _ => rfl
  b2 := fun kV dc pm an cd ct ks hk => by cases hk
theorem wf_is_turn : FnWf fi_is_turn where
  sc := ⟨rfl, rfl, rfl, by decide +kernel, rfl, by decide +kernel, by decide +kernel⟩
  d := by decide
  b1 := fun kV dc pm an cd ct us hl => match us, hl with | [_], _ => rfl
  b2 := fun kV dc pm an cd ct ks hk => by cases hk
theorem wf_is_pair : FnWf fi_is_pair where
  sc := ⟨rfl, rfl, rfl, by decide +kernel, rfl, by decide +kernel, by decide +kernel⟩
  d := by decide
  b1 := fun kV dc pm an cd ct us hl => match us, hl with | [_], _ => rfl
  b2 := fun kV dc pm an cd ct ks hk => by cases hk
theorem wf_are_plays : FnWf fi_are_plays where
  sc := ⟨rfl, rfl, rfl, by decide +kernel, rfl, by decide +kernel, by decide +kernel⟩
  d := by decide
  b1 := fun kV dc pm an cd ct us hl => match us, hl with | [_], _ => rfl
  b2 := fun kV dc pm an cd ct ks hk => by cases hk
theorem wf_are_places : FnWf fi_are_places where
  sc := ⟨rfl, rfl, rfl, by decide +kernel, rfl, by decide +kernel, by decide +kernel⟩
  d := by decide
  b1 := fun kV dc pm an cd ct us hl => match us, hl with | [_, _, _], _ => rfl
  b2 := fun kV dc pm an cd ct ks hk => by cases hk
theorem wf_check_lock : FnWf fi_check_lock where
  sc := ⟨rfl, rfl, rfl, by decide +kernel, rfl, by decide +kernel, by decide +kernel⟩
  d := by decide
  b1 := fun kV dc pm an cd ct us hl => match us, hl with | [_], _ => rfl
  b2 := fun kV dc pm an cd ct ks hk => by cases hk
theorem wf_check_state : FnWf fi_check_state where
  sc := ⟨rfl, rfl, rfl, by decide +kernel, rfl, by decide +kernel, by decide +kernel⟩
  d := by decide
  b1 := fun kV dc pm an cd ct us hl => match us, hl with | [_, _], _ => rfl
  b2 := fun kV dc pm an cd ct ks hk => by cases hk
theorem wf_check_turns : FnWf fi_check_turns where
  sc := ⟨rfl, rfl, rfl, by decide +kernel, rfl, by decide +kernel, by decide +kernel⟩
  d := by decide
  b1 := fun kV dc pm an cd ct us hl => match us, hl with | [_], _ => rfl
  b2 := fun kV dc pm an cd ct ks hk => by cases hk
theorem wf_turned_once : FnWf fi_turned_once where
  sc := ⟨rfl, rfl, rfl, by decide +kernel, rfl, by decide +kernel, by decide +kernel⟩
  d := by decide
  b1 := fun kV dc pm an cd ct us hl => match us, hl with | [_, _, _], _ => rfl
  b2 := fun kV dc pm an cd ct ks hk => by cases hk
theorem wf_turned_state : FnWf fi_turned_state where
  sc := ⟨rfl, rfl, rfl, by decide +kernel, rfl, by decide +kernel, by decide +kernel⟩
  d := by decide
  b1 := fun kV dc pm an cd ct us hl => match us, hl with | [_, _, _], _ => rfl
  b2 := fun kV dc pm an cd ct ks hk => by cases hk
theorem wf_state_trail : FnWf fi_state_trail where
  sc := ⟨rfl, rfl, rfl, by decide +kernel, rfl, by decide +kernel, by decide +kernel⟩
  d := by decide
  b1 := fun kV dc pm an cd ct us hl => match us, hl with | [_, _, _], _ => rfl
  b2 := fun kV dc pm an cd ct ks hk => by cases hk
theorem wf_law_coil : FnWf fi_law_coil where
  sc := ⟨rfl, rfl, rfl, by decide +kernel, rfl, by decide +kernel, by decide +kernel⟩
  d := by decide
  b1 := fun kV dc pm an cd ct us hl => match us, hl with | [_, _], _ => rfl
  b2 := fun kV dc pm an cd ct ks hk => by cases hk
theorem wf_law_draw : FnWf fi_law_draw where
  sc := ⟨rfl, rfl, rfl, by decide +kernel, rfl, by decide +kernel, by decide +kernel⟩
  d := by decide
  b1 := fun kV dc pm an cd ct us hl => match us, hl with | [_, _], _ => rfl
  b2 := fun kV dc pm an cd ct ks hk => by cases hk
theorem wf_law_pack : FnWf fi_law_pack where
  sc := ⟨rfl, rfl, rfl, by decide +kernel, rfl, by decide +kernel, by decide +kernel⟩
  d := by decide
  b1 := fun kV dc pm an cd ct us hl => match us, hl with | [_, _, _], _ => rfl
  b2 := fun kV dc pm an cd ct ks hk => by cases hk
theorem wf_law_reaches : FnWf fi_law_reaches where
  sc := ⟨rfl, rfl, rfl, by decide +kernel, rfl, by decide +kernel, by decide +kernel⟩
  d := by decide
  b1 := fun kV dc pm an cd ct us hl => match us, hl with | [_], _ => rfl
  b2 := fun kV dc pm an cd ct ks hk => by cases hk
theorem wf_law_stand : FnWf fi_law_stand where
  sc := ⟨rfl, rfl, rfl, by decide +kernel, rfl, by decide +kernel, by decide +kernel⟩
  d := by decide
  b1 := fun kV dc pm an cd ct us hl => match us, hl with | [_, _, _], _ => rfl
  b2 := fun kV dc pm an cd ct ks hk => by cases hk
theorem wf_law_swings : FnWf fi_law_swings where
  sc := ⟨rfl, rfl, rfl, by decide +kernel, rfl, by decide +kernel, by decide +kernel⟩
  d := by decide
  b1 := fun kV dc pm an cd ct us hl => match us, hl with | [_, _, _, _], _ => rfl
  b2 := fun kV dc pm an cd ct ks hk => by cases hk
theorem wf_law_turned : FnWf fi_law_turned where
  sc := ⟨rfl, rfl, rfl, by decide +kernel, rfl, by decide +kernel, by decide +kernel⟩
  d := by decide
  b1 := fun kV dc pm an cd ct us hl => match us, hl with | [_, _, _], _ => rfl
  b2 := fun kV dc pm an cd ct ks hk => by cases hk
theorem wf_law_parted : FnWf fi_law_parted where
  sc := ⟨rfl, rfl, rfl, by decide +kernel, rfl, by decide +kernel, by decide +kernel⟩
  d := by decide
  b1 := fun kV dc pm an cd ct us hl => match us, hl with | [_, _], _ => rfl
  b2 := fun kV dc pm an cd ct ks hk => by cases hk
theorem wf_law_right : FnWf fi_law_right where
  sc := ⟨rfl, rfl, rfl, by decide +kernel, rfl, by decide +kernel, by decide +kernel⟩
  d := by decide
  b1 := fun kV dc pm an cd ct us hl => match us, hl with | [_, _, _, _], _ => rfl
  b2 := fun kV dc pm an cd ct ks hk => by cases hk
theorem wf_law : FnWf fi_law where
  sc := ⟨rfl, rfl, rfl, by decide +kernel, rfl, by decide +kernel, by decide +kernel⟩
  d := by decide
  b1 := fun kV dc pm an cd ct us hl => match us, hl with | [_], _ => rfl
  b2 := fun kV dc pm an cd ct ks hk => by cases hk
theorem wf : ∀ fi ∈ G.tab, FnWf fi := by
  intro fi hm
  simp only [G, List.mem_cons, List.not_mem_nil, or_false] at hm
  rcases hm with rfl | rfl | rfl | rfl | rfl | rfl | rfl | rfl | rfl | rfl | rfl | rfl | rfl | rfl | rfl | rfl | rfl | rfl | rfl | rfl | rfl | rfl
  · exact wf_is_integer
  · exact wf_is_at_least
  · exact wf_is_turn
  · exact wf_is_pair
  · exact wf_are_plays
  · exact wf_are_places
  · exact wf_check_lock
  · exact wf_check_state
  · exact wf_check_turns
  · exact wf_turned_once
  · exact wf_turned_state
  · exact wf_state_trail
  · exact wf_law_coil
  · exact wf_law_draw
  · exact wf_law_pack
  · exact wf_law_reaches
  · exact wf_law_stand
  · exact wf_law_swings
  · exact wf_law_turned
  · exact wf_law_parted
  · exact wf_law_right
  · exact wf_law
theorem T_is_integer : G.T "is_integer" = some ir_is_integer := rfl
theorem T_is_at_least : G.T "is_at_least" = some ir_is_at_least := rfl
theorem T_is_turn : G.T "is_turn" = some ir_is_turn := rfl
theorem T_is_pair : G.T "is_pair" = some ir_is_pair := rfl
theorem T_are_plays : G.T "are_plays" = some ir_are_plays := rfl
theorem T_are_places : G.T "are_places" = some ir_are_places := rfl
theorem T_check_lock : G.T "check_lock" = some ir_check_lock := rfl
theorem T_check_state : G.T "check_state" = some ir_check_state := rfl
theorem T_check_turns : G.T "check_turns" = some ir_check_turns := rfl
theorem T_turned_once : G.T "_turned_once" = some ir_turned_once := rfl
theorem T_turned_state : G.T "turned_state" = some ir_turned_state_3 := rfl
theorem T_state_trail : G.T "state_trail" = some ir_state_trail_1 := rfl
theorem T_law_coil : G.T "_law_coil" = some ir_law_coil := rfl
theorem T_law_draw : G.T "_law_draw" = some ir_law_draw_2 := rfl
theorem T_law_pack : G.T "_law_pack" = some ir_law_pack := rfl
theorem T_law_reaches : G.T "_law_reaches" = some ir_law_reaches_1 := rfl
theorem T_law_stand : G.T "_law_stand" = some ir_law_stand := rfl
theorem T_law_swings : G.T "_law_swings" = some ir_law_swings := rfl
theorem T_law_turned : G.T "_law_turned" = some ir_law_turned := rfl
theorem T_law_parted : G.T "_law_parted" = some ir_law_parted := rfl
theorem T_law_right : G.T "_law_right" = some ir_law_right_4 := rfl
theorem T_law : G.T "law" = some ir_law_5 := rfl
theorem tk : T05 G.T := by repeat' (first | exact rfl | constructor)
theorem hR : ∀ ns : List Int, ns.length ≤ 63 → ∃ h', call G.T (7 + 1) "law" [.frz ns] [] = .ok (.bl true) h' := by
  intro ns hn
  have z : (call G.T (7 + 1) "law" [.frz ns] []).wp fun v _ => v = .bl true := law05 tk hn
  cases e : call G.T (7 + 1) "law" [.frz ns] [] with
  | ok v h' =>
    rw [e] at z
    cases (show v = .bl true from z)
    exact ⟨h', rfl⟩
  | err a b => rw [e] at z; exact z.elim
  | bad => rw [e] at z; exact z.elim
theorem ap2 {α : Type} {P : α → Prop} {a : α} {as : List α} (h : P a) (t : ∀ x ∈ as, P x) : ∀ x ∈ a :: as, P x := fun x hx => by
  rcases List.mem_cons.mp hx with rfl | hx
  · exact h
  · exact t x hx
theorem ap0 {α : Type} {P : α → Prop} : ∀ x ∈ ([] : List α), P x := fun x hx => by cases hx
end Lk05
open PySem PySem.W PyProof.Rows
set_option maxHeartbeats 0 in
theorem PySem.Challenge.cw_dialpack_k05_turns_of_great_numbers_holds : PySem.Challenge.rw_dialpack_k05_turns_of_great_numbers.Holds := by
  w_on; o_law; k_head; (case hw => w_witness2)
  k_fill
  refine Dl.walk_D (l := PySem.Challenge.rw_dialpack_k05_turns_of_great_numbers) (n := 63) (k := 7 + 1) (x := "script") (pd := IR.pdLaw 63) rfl (by decide) rfl ⟨rfl, by decide, by decide⟩ (fun w h Y => PySem.W.kIn_of Y) ?F (fun ns hl => ⟨ns, rfl, hl, rfl, fun _ => rfl⟩)
  case F =>
    intro w mg fa h KX G hmg
    refine' IR.law_mk (G := Lk05.G) KX G hmg ((Lk05.ap2 (Dl.fi ?a0 ?l0 ?c0 ?k0) (Lk05.ap2 (Dl.fi ?a1 ?l1 ?c1 ?k1) (Lk05.ap2 (Dl.fi ?a2 ?l2 ?c2 ?k2) (Lk05.ap2 (Dl.fi ?a3 ?l3 ?c3 ?k3) (Lk05.ap2 (Dl.fi ?a4 ?l4 ?c4 ?k4) (Lk05.ap2 (Dl.fi ?a5 ?l5 ?c5 ?k5) (Lk05.ap2 (Dl.fi ?a6 ?l6 ?c6 ?k6) (Lk05.ap2 (Dl.fi ?a7 ?l7 ?c7 ?k7) (Lk05.ap2 (Dl.fi ?a8 ?l8 ?c8 ?k8) (Lk05.ap2 (Dl.fi ?a9 ?l9 ?c9 ?k9) (Lk05.ap2 (Dl.fi ?a10 ?l10 ?c10 ?k10) (Lk05.ap2 (Dl.fi ?a11 ?l11 ?c11 ?k11) (Lk05.ap2 (Dl.fi ?a12 ?l12 ?c12 ?k12) (Lk05.ap2 (Dl.fi ?a13 ?l13 ?c13 ?k13) (Lk05.ap2 (Dl.fi ?a14 ?l14 ?c14 ?k14) (Lk05.ap2 (Dl.fi ?a15 ?l15 ?c15 ?k15) (Lk05.ap2 (Dl.fi ?a16 ?l16 ?c16 ?k16) (Lk05.ap2 (Dl.fi ?a17 ?l17 ?c17 ?k17) (Lk05.ap2 (Dl.fi ?a18 ?l18 ?c18 ?k18) (Lk05.ap2 (Dl.fi ?a19 ?l19 ?c19 ?k19) (Lk05.ap2 (Dl.fi ?a20 ?l20 ?c20 ?k20) (Lk05.ap2 (Dl.fi ?a21 ?l21 ?c21 ?k21) Lk05.ap0))))))))))))))))))))))) ((Lk05.ap2 ⟨Dl.ci ?j22, by decide⟩ (Lk05.ap2 ⟨Dl.ci ?j23, by decide⟩ (Lk05.ap2 ⟨Dl.ci ?j24, by decide⟩ Lk05.ap0)))) ((Lk05.ap2 ?z25 (Lk05.ap2 ?z26 (Lk05.ap2 ?z27 (Lk05.ap2 ?z28 (Lk05.ap2 ?z29 (Lk05.ap2 ?z30 (Lk05.ap2 ?z31 (Lk05.ap2 ?z32 (Lk05.ap2 ?z33 (Lk05.ap2 ?z34 (Lk05.ap2 ?z35 (Lk05.ap2 ?z36 (Lk05.ap2 ?z37 (Lk05.ap2 ?z38 (Lk05.ap2 ?z39 Lk05.ap0)))))))))))))))) Lk05.wf (law := Lk05.fi_law) rfl rfl Lk05.hR
    (case a0 => k_is)
    (case l0 => k_is)
    (case c0 => k_is)
    (case k0 => k_is)
    (case a1 => k_is)
    (case l1 => k_is)
    (case c1 => k_is)
    (case k1 => k_is)
    (case a2 => k_is)
    (case l2 => k_is)
    (case c2 => k_is)
    (case k2 => k_is)
    (case a3 => k_is)
    (case l3 => k_is)
    (case c3 => k_is)
    (case k3 => k_is)
    (case a4 => k_is)
    (case l4 => k_is)
    (case c4 => k_is)
    (case k4 => k_is)
    (case a5 => k_is)
    (case l5 => k_is)
    (case c5 => k_is)
    (case k5 => k_is)
    (case a6 => k_is)
    (case l6 => k_is)
    (case c6 => k_is)
    (case k6 => k_is)
    (case a7 => k_is)
    (case l7 => k_is)
    (case c7 => k_is)
    (case k7 => k_is)
    (case a8 => k_is)
    (case l8 => k_is)
    (case c8 => k_is)
    (case k8 => k_is)
    (case a9 => k_is)
    (case l9 => k_is)
    (case c9 => k_is)
    (case k9 => k_is)
    (case a10 => k_is)
    (case l10 => k_is)
    (case c10 => k_is)
    (case k10 => k_is)
    (case a11 => k_is)
    (case l11 => k_is)
    (case c11 => k_is)
    (case k11 => k_is)
    (case a12 => k_is)
    (case l12 => k_is)
    (case c12 => k_is)
    (case k12 => k_is)
    (case a13 => k_is)
    (case l13 => k_is)
    (case c13 => k_is)
    (case k13 => k_is)
    (case a14 => k_is)
    (case l14 => k_is)
    (case c14 => k_is)
    (case k14 => k_is)
    (case a15 => k_is)
    (case l15 => k_is)
    (case c15 => k_is)
    (case k15 => k_is)
    (case a16 => k_is)
    (case l16 => k_is)
    (case c16 => k_is)
    (case k16 => k_is)
    (case a17 => k_is)
    (case l17 => k_is)
    (case c17 => k_is)
    (case k17 => k_is)
    (case a18 => k_is)
    (case l18 => k_is)
    (case c18 => k_is)
    (case k18 => k_is)
    (case a19 => k_is)
    (case l19 => k_is)
    (case c19 => k_is)
    (case k19 => k_is)
    (case a20 => k_is)
    (case l20 => k_is)
    (case c20 => k_is)
    (case k20 => k_is)
    (case a21 => k_is)
    (case l21 => k_is)
    (case c21 => k_is)
    (case k21 => k_is)
    (case j22 => k_is)
    (case j23 => k_is)
    (case j24 => k_is)
    (case z25 => k_is)
    (case z26 => k_is)
    (case z27 => k_is)
    (case z28 => k_is)
    (case z29 => k_is)
    (case z30 => k_is)
    (case z31 => k_is)
    (case z32 => k_is)
    (case z33 => k_is)
    (case z34 => k_is)
    (case z35 => k_is)
    (case z36 => k_is)
    (case z37 => k_is)
    (case z38 => k_is)
    (case z39 => k_is)
